/- FnCmd: for every code the law returns true; the listed variables of the library lie as its text lays them. -/
import Derived.Test.YtejleghdgdbbnaaDoorRows
import Derived.ProofKit
import Derived.OpenShut
import Derived.LaidMore
import Derived.Stop.Joined
import Derived.Stop.LaidErr
import Derived.Lay
import Derived.Test.YtejleghdgdbbnaaDoorTcC
import Derived.Test.YtejleghdgdbbnaaDoorCmY
import Derived.Test.YtejleghdgdbbnaaDoorMgFb
import Derived.Test.YtejleghdgdbbnaaDoorCmX
import Derived.Lib.LaidTab
import Derived.Test.YtejleghdgdbbnaaDoorMgFc
import Derived.Test.YtejleghdgdbbnaaDoorNumD
import Derived.OpenVars
import Derived.Test.YtejleghdgdbbnaaDoorCards
import Derived.Test.YtejleghdgdbbnaaDoorTie
import Derived.SevenTiedAt
namespace Go.Proofs.YtejleghdgdbbnaaDoor
open Go.ChangeShapes Go.WideShapes Go.ChangeAt Go.RowKit

theorem ownKnobNone : ownKnob Tryd.prog.godebug = none := by kernel_rfl

set_option maxRecDepth 100000 in
/-- The listed data and the shape of the world, both handed to the walk. -/
theorem handed {H : Type} {enc : TypeId × Value → H} {os : Os} {f : FuncId} {fn : Func} {s : ChangeSpec} {laid : List (String × DataW Unit)} (started : os.Started)
    (noInit : Tryd.checked.prog.inits.idxOf? f = none) (hfn : Tryd.checked.prog.funcs[f]? = some fn)
    (wit : ∃ (w : World) (tape : Tape) (i : Input), w.os = os ∧ (w.forCall tape i).Shaped Tryd.checked.prog ∧ i.vars = [] ∧ Input.okWide Tryd.checked.prog (w.forCall tape i) .any w.heap.size f i ∧
      ((s.pre enc Tryd.checked.prog fn [] false (w.forCall tape i).memory i.args ∧ laidMetH Tryd.checked.prog laid (w.forCall tape i).memory) ∧ sizedMet enc Tryd.checked.prog fn (OpenSpec.ofChange s) false (w.forCall tape i).memory i.args) ∧ ({} : Assume).holds Tryd.checked.prog (lone (Frame.enter Tryd.checked.prog f i.args .normal) [] (w.forCall tape i)))
    (walk : ∀ (W : World) (base : Nat) (args : Array Value) (ds gs : List (DataW H)) (before : List MemPlace),
      (∀ (j : Nat) t v, fn.params[j]? = some t → args[j]? = some v → Value.okWide Tryd.checked.prog W .any base t v) →
      DataW.Whole enc Tryd.checked.prog fn.params.toList s.vars false W args.toList ds gs before →
      laidMetH Tryd.checked.prog laid W → W.ShapedOpen Tryd.checked.prog →
      Calls Tryd.checked.prog f args W fun e W' => ∃ v, e = .returned v ∧ s.post enc Tryd.checked.prog fn false true false false W args v W') :
    ReturnsInHanded {} Tryd.checked os f .any (fun w args => (s.pre enc Tryd.checked.prog fn [] false w args ∧ laidMetH Tryd.checked.prog laid w) ∧ sizedMet enc Tryd.checked.prog fn (OpenSpec.ofChange s) false w args) (s.post enc Tryd.checked.prog fn false true false false) := by
  refine returnsInHanded_of_calls ownKnobNone started noInit wit fun w tape i _ shape _ ok pre _ => ?_
  obtain ⟨_, _, _, fn1, hfn1, _, _, _, _, vals⟩ := ok
  obtain rfl : fn1 = fn := Option.some.inj (hfn1.symm.trans hfn)
  obtain ⟨⟨⟨ds, gs, before, whole, _⟩, laidThere⟩, _⟩ := pre
  have whole1 := DataW.Whole.of_heap (w' := w.forCall tape i) (by rfl) whole
  refine (walk _ w.heap.size i.args ds gs before vals whole1 (laidThere.of_heap (by rfl)) shape).mono fun e W1 ⟨v, he, hp⟩ => ?_
  subst he
  exact ChangeSpec.post_blind hp
end Go.Proofs.YtejleghdgdbbnaaDoor

namespace Go.Proofs.YtejleghdgdbbnaaDoor
open Go.ChangeShapes Go.WideShapes Go.ChangeAt Go.RowKit

theorem readCmd_c (g cap : Nat) (P : List (List UInt8)) (hne : P ≠ []) (hl : ∀ x ∈ P, x.length ≤ 1048576) (hcap : P.length ≤ cap) (w : World) (h : Row w g (strs P)) (hk : KwT w) (env : Env w) :
    Calls Tryd.prog 30 #[.slice (some ⟨g, 0, none⟩) P.length cap] w fun e w' => e = .returned (.agg (rdC P).cells.toArray) ∧ Below w.heap.size w w' := by
  cases P with
  | nil => exact absurd rfl hne
  | cons x0 r =>
    by_cases h8 : r.length = 7 ∧ kdN x0 = 1
    · match r, h8.1 with
      | [x1, x2, x3, x4, x5, x6, x7], _ =>
        have e : rdC [x0, x1, x2, x3, x4, x5, x6, x7] = ⟨1, jrd x1 x2 x3 x4 x5 x6 x7, 0, 0, 0, 0⟩ := by unfold rdC; rw [if_pos ⟨rfl, h8.2⟩]; rfl
        rw [e]
        exact readCmd_j g cap x0 x1 x2 x3 x4 x5 x6 x7 h8.2 hl hcap w h hk env
    · by_cases h2 : r.length = 1
      · match r, h2 with
        | [x1], _ =>
          by_cases h6 : kdN x0 = 6
          · have e : rdC [x0, x1] = ⟨6, jb0, 0, (tvR x1).1.1, (tvR x1).1.2.1, (tvR x1).1.2.2⟩ := by unfold rdC; rw [if_neg (fun t => by have := t.1; simp at this), if_pos ⟨rfl, h6⟩]; rfl
            rw [e]
            exact readCmd_l g cap x0 x1 h6 (hl x1 (by simp)) w h hk env
          · have e : rdC [x0, x1] = ⟨kdN x0, jb0, (tnR x1).1, 0, 0, 0⟩ := by unfold rdC; rw [if_neg (fun t => by have := t.1; simp at this), if_neg (fun t => h6 t.2), if_pos (show [x0, x1].length = 2 from rfl)]; rfl
            rw [e]
            exact readCmd_n g cap x0 x1 h6 (hl x1 (by simp)) w h hk env
      · have e : rdC (x0 :: r) = ⟨kdN x0, jb0, 0, 0, 0, 0⟩ := by
          unfold rdC
          rw [if_neg (fun t => h8 ⟨by have := t.1; simp at this; exact this, t.2⟩), if_neg (fun t => h2 (by have := t.1; simp at this; simp [this])), if_neg (fun t => h2 (by simp at t; simp [t]))]
          rfl
        rw [e]
        exact readCmd_d g cap x0 r h2 h8 w h hk

set_option maxHeartbeats 2000000 in
theorem implParts_cap (s : ByteArray) (b : UInt8) (hs : s.size ≤ 1048576) (w : World) (hm : MaxL w) :
    Calls Tryd.prog 31 #[.string s, .int .u8 (b.toNat : Int)] w fun e w' =>
      ∃ g cap, e = .returned (.slice (some ⟨g, 0, none⟩) (pcs b s.data.toList).length cap) ∧ (pcs b s.data.toList).length ≤ cap ∧ Row w' g (strs (pcs b s.data.toList)) ∧ Below w.heap.size w w' := by
  have Hm : Hid (MaxL w) := hm
  have hcv : (convert 22 9 (.slice (some ⟨w.heap.size, 0, none⟩) 1 1)).run Tryd.prog (w.alloc (.cells #[.int .u8 (b.toNat : Int)] 5)) = .ok (.string ⟨#[b]⟩) (w.alloc (.cells #[.int .u8 (b.toNat : Int)] 5)) := by
    have := conv_one w.heap.size (b.toNat : Int) (w.alloc (.cells #[.int .u8 (b.toNat : Int)] 5)) (by simp) (by omega) (by have := b.toNat_lt; omega)
    rw [this]
    simp
  clear hm
  have hcnt : (pcs b s.data.toList).length ≤ s.size + 1 := pcs_count b s.data.toList
  have HP : Hid (∀ p, p ∈ pcs b s.data.toList → p.length ≤ s.size) := fun p hp => pcs_size b s.data.toList p hp
  go_enter Tryd.func31, Tryd.ntmps31
  go_wp2_with fail
  refine (split_c s b hs _ (Hm.out.on (by go_grown))).mono ?_
  rintro e V ⟨rfl, hrow, hbv⟩
  have HB : Hid (Below w.heap.size w V) := below_then (by go_grown) hbv
  have HR : Hid (Row V (w.heap.size + 1) (strs (pcs b s.data.toList))) := by
    show Row _ _ _
    simpa using hrow
  clear hrow hbv
  generalize hP : pcs b s.data.toList = P at *
  have HQ : Hid (pcs b s.data.toList = P) := hP
  clear hP hcv
  go_wp2_with fail
  go_loopw [15] (fun i wr => ∃ j : Nat, j ≤ P.length ∧ i = .int .i64 j ∧ Row wr (w.heap.size + 1) (strs P) ∧ Below w.heap.size w wr) (fun i _ => P.length - (intOf i).toNat)
  case atStart => exact ⟨0, Nat.zero_le _, rfl, HR.out, HB.out⟩
  case round =>
    obtain ⟨j, hj, rfl, hr, hb⟩ := hrel
    have HR1 : Hid (Row wr (w.heap.size + 1) (strs P)) := hr
    have HB1 : Hid (Below w.heap.size w wr) := hb
    clear hr hb HR HB
    by_cases hlt : j < P.length
    · have hi0 : (0 : Int) ≤ (j : Int) := by omega
      have hi1 : (j : Int) < (P.length : Int) := by omega
      have Hu : Hid ((strs P)[j]? = some (.string ⟨P[j].toArray⟩)) := by show _ = _; rw [strs_get, List.getElem?_eq_getElem hlt]; rfl
      have hc : wr.cell? ⟨w.heap.size + 1, j, none⟩ = some (.string ⟨P[j].toArray⟩) := HR1.out.cell j _ Hu.out
      have hsz : (⟨P[j].toArray⟩ : ByteArray).size ≤ 281474976710656 := by
        have := HP.out P[j] (List.getElem_mem hlt)
        have e : (⟨P[j].toArray⟩ : ByteArray).size = P[j].length := by simp [ByteArray.size]
        omega
      go_wp2_with fail
      refine (clone_c _ hsz _).mono ?_
      rintro e w1 ⟨rfl, hb1⟩
      have HR2 : Hid (Row w1 (w.heap.size + 1) (strs P)) := HR1.out.below hb1
      have HB2 : Hid (Below w.heap.size w w1) := below_then HB1.out hb1
      have hc1 : w1.cell? ⟨w.heap.size + 1, j, none⟩ = some (.string ⟨P[j].toArray⟩) := HR2.out.cell j _ Hu.out
      have hf1 : w1.frozen? ⟨w.heap.size + 1, j, none⟩ = false := HR2.out.free j
      have HR3 : Hid (Row (w1.setCell ⟨w.heap.size + 1, j, none⟩ (.string ⟨P[j].toArray⟩)) (w.heap.size + 1) (strs P)) := by
        have := HR2.out.set j (by rw [strs_length]; exact hlt) (.string ⟨P[j].toArray⟩)
        rw [set_same Hu.out] at this
        exact this
      clear hb1 hc hsz HR1 HB1
      go_wp2_with fail
      go_roundw
      case rel => exact ⟨j + 1, by omega, by go_num, HR3.out, HB2.out.setCell (by simp) _⟩
      case measure => simp [intOf]; omega
    · go_wp2_with fail
      go_ret
      exact ⟨w.heap.size + 1, P.length, by rw [HQ.out]; rfl, by rw [HQ.out]; exact Nat.le_refl _, by rw [HQ.out]; exact HR1.out, HB1.out⟩

def cm0 : Cm := ⟨0, jb0, 0, 0, 0, 0⟩
/-- The command whose text a text is. -/
def tcR (l : List UInt8) : Cm × Bool := if cmdB (rdC (pcs 32 l)).s (rdC (pcs 32 l)).j (rdC (pcs 32 l)).n (rdC (pcs 32 l)).a (rdC (pcs 32 l)).b (rdC (pcs 32 l)).c = true ∧ ctL (rdC (pcs 32 l)).s (rdC (pcs 32 l)).j (rdC (pcs 32 l)).n (rdC (pcs 32 l)).a (rdC (pcs 32 l)).b (rdC (pcs 32 l)).c = l then (rdC (pcs 32 l), true) else (cm0, false)

set_option maxHeartbeats 4000000 in
set_option maxRecDepth 100000 in
theorem implTextCmd_no (s : ByteArray) (hs : s.size ≤ 1048576) (w : World) (hk : KwT w) (env : Env w) (x : Cm) (hx : rdC (pcs 32 s.data.toList) = x) (hok : cmdB x.s x.j x.n x.a x.b x.c = false) : Calls Tryd.prog 9 #[.string s] w fun e w' => e = .returned (.tuple #[.agg #[.int .i64 0, .int .i64 0, .int .i64 0, .int .i64 0, .int .i64 0, .int .i64 0, .int .i64 0, .int .i64 0, .int .i64 0, .int .i64 0, .int .i64 0, .int .i64 0, .int .i64 0, .int .i64 0, .int .i64 0, .int .i64 0], .bool false]) ∧ Below w.heap.size w w' := by
  have HK : Hid (KwT w) := hk
  have HE : Hid (Env w) := env
  have HP : Hid (pcs 32 s.data.toList ≠ []) := pcs_ne _ _
  have HPl : Hid (∀ p, p ∈ pcs 32 s.data.toList → p.length ≤ 1048576) := fun p hp => Nat.le_trans (pcs_size 32 s.data.toList p hp) hs
  have CP := fun W (hW : MaxL W) => implParts_cap s 32 hs W hW
  have CR2 : ∀ (g cap : Nat) (W : World), (pcs 32 s.data.toList).length ≤ cap → Row W g (strs (pcs 32 s.data.toList)) → KwT W → Env W → Calls Tryd.prog 30 #[.slice (some ⟨g, 0, none⟩) (pcs 32 s.data.toList).length cap] W fun e w' => e = .returned (.agg #[.int .i64 x.s, .int .i64 x.j.id, .int .i64 x.j.pr, .int .i64 x.j.nd, .int .i64 x.j.na, .int .i64 x.j.nb, .int .i64 x.j.nc, .int .i64 x.j.la, .int .i64 x.j.lb, .int .i64 x.j.lc, .int .i64 x.j.wl, .int .i64 x.j.lv, .int .i64 x.n, .int .i64 x.a, .int .i64 x.b, .int .i64 x.c]) ∧ Below W.heap.size W w' := fun g cap W hc h hk env => by
    have := readCmd_c g cap (pcs 32 s.data.toList) HP.out HPl.out hc W h hk env
    rw [hx] at this
    exact this
  clear HP HPl hk env hx
  generalize pcs 32 s.data.toList = P at CP CR2
  have HC : Hid (∀ W : World, Calls Tryd.prog 24 #[.agg #[.int .i64 x.s, .int .i64 x.j.id, .int .i64 x.j.pr, .int .i64 x.j.nd, .int .i64 x.j.na, .int .i64 x.j.nb, .int .i64 x.j.nc, .int .i64 x.j.la, .int .i64 x.j.lb, .int .i64 x.j.lc, .int .i64 x.j.wl, .int .i64 x.j.lv, .int .i64 x.n, .int .i64 x.a, .int .i64 x.b, .int .i64 x.c]] W fun e w' => e = .returned (.bool false) ∧ Below W.heap.size W w') := fun W => by have := implCmdOk_c x.s x.j x.n x.a x.b x.c W; rw [hok] at this; exact this
  clear hok
  go_enter Tryd.func9, Tryd.ntmps9
  go_wp2_with fail
  have HR : Hid (Row (w.alloc (.cells #[.int .i64 0, .int .i64 0, .int .i64 0, .int .i64 0, .int .i64 0, .int .i64 0, .int .i64 0, .int .i64 0, .int .i64 0, .int .i64 0, .int .i64 0, .int .i64 0, .int .i64 0, .int .i64 0, .int .i64 0, .int .i64 0] 28)) w.heap.size [.int .i64 0, .int .i64 0, .int .i64 0, .int .i64 0, .int .i64 0, .int .i64 0, .int .i64 0, .int .i64 0, .int .i64 0, .int .i64 0, .int .i64 0, .int .i64 0, .int .i64 0, .int .i64 0, .int .i64 0, .int .i64 0]) := row_fresh w [.int .i64 0, .int .i64 0, .int .i64 0, .int .i64 0, .int .i64 0, .int .i64 0, .int .i64 0, .int .i64 0, .int .i64 0, .int .i64 0, .int .i64 0, .int .i64 0, .int .i64 0, .int .i64 0, .int .i64 0, .int .i64 0] 28
  have HB : Hid (Below w.heap.size w (w.alloc (.cells #[.int .i64 0, .int .i64 0, .int .i64 0, .int .i64 0, .int .i64 0, .int .i64 0, .int .i64 0, .int .i64 0, .int .i64 0, .int .i64 0, .int .i64 0, .int .i64 0, .int .i64 0, .int .i64 0, .int .i64 0, .int .i64 0] 28))) := low_alloc _ _
  generalize w.alloc (.cells #[.int .i64 0, .int .i64 0, .int .i64 0, .int .i64 0, .int .i64 0, .int .i64 0, .int .i64 0, .int .i64 0, .int .i64 0, .int .i64 0, .int .i64 0, .int .i64 0, .int .i64 0, .int .i64 0, .int .i64 0, .int .i64 0] 28) = u0 at HR HB ⊢
  refine (CP _ (HE.out.on HB.out).2.2).mono ?_
  rintro e w1 ⟨g, cap, rfl, hcap, hr, hb⟩
  replace HR : Hid (Row w1 w.heap.size [.int .i64 0, .int .i64 0, .int .i64 0, .int .i64 0, .int .i64 0, .int .i64 0, .int .i64 0, .int .i64 0, .int .i64 0, .int .i64 0, .int .i64 0, .int .i64 0, .int .i64 0, .int .i64 0, .int .i64 0, .int .i64 0]) := HR.out.below hb
  replace HB : Hid (Below w.heap.size w w1) := below_then HB.out hb
  have HR1 : Hid (Row w1 g (strs P)) := hr
  have HCap : Hid (P.length ≤ cap) := hcap
  clear hr hb CP hcap
  go_wp2_with fail
  refine (CR2 g cap _ HCap.out HR1.out (HK.out.on HB.out) (HE.out.on HB.out)).mono ?_
  rintro e w2 ⟨rfl, hb⟩
  replace HR : Hid (Row w2 w.heap.size [.int .i64 0, .int .i64 0, .int .i64 0, .int .i64 0, .int .i64 0, .int .i64 0, .int .i64 0, .int .i64 0, .int .i64 0, .int .i64 0, .int .i64 0, .int .i64 0, .int .i64 0, .int .i64 0, .int .i64 0, .int .i64 0]) := HR.out.below hb
  replace HB : Hid (Below w.heap.size w w2) := below_then HB.out hb
  clear hb CR2 HR1 HCap
  go_wp2_with (refine stay_load 28 ?_)
  refine ⟨?_⟩
  have HJ : Hid (Row (w2.alloc (.cells #[.int .i64 x.s, .int .i64 x.j.id, .int .i64 x.j.pr, .int .i64 x.j.nd, .int .i64 x.j.na, .int .i64 x.j.nb, .int .i64 x.j.nc, .int .i64 x.j.la, .int .i64 x.j.lb, .int .i64 x.j.lc, .int .i64 x.j.wl, .int .i64 x.j.lv, .int .i64 x.n, .int .i64 x.a, .int .i64 x.b, .int .i64 x.c] 28)) w2.heap.size [.int .i64 x.s, .int .i64 x.j.id, .int .i64 x.j.pr, .int .i64 x.j.nd, .int .i64 x.j.na, .int .i64 x.j.nb, .int .i64 x.j.nc, .int .i64 x.j.la, .int .i64 x.j.lb, .int .i64 x.j.lc, .int .i64 x.j.wl, .int .i64 x.j.lv, .int .i64 x.n, .int .i64 x.a, .int .i64 x.b, .int .i64 x.c]) := row_fresh w2 [.int .i64 x.s, .int .i64 x.j.id, .int .i64 x.j.pr, .int .i64 x.j.nd, .int .i64 x.j.na, .int .i64 x.j.nb, .int .i64 x.j.nc, .int .i64 x.j.la, .int .i64 x.j.lb, .int .i64 x.j.lc, .int .i64 x.j.wl, .int .i64 x.j.lv, .int .i64 x.n, .int .i64 x.a, .int .i64 x.b, .int .i64 x.c] 28
  replace HR : Hid (Row (w2.alloc (.cells #[.int .i64 x.s, .int .i64 x.j.id, .int .i64 x.j.pr, .int .i64 x.j.nd, .int .i64 x.j.na, .int .i64 x.j.nb, .int .i64 x.j.nc, .int .i64 x.j.la, .int .i64 x.j.lb, .int .i64 x.j.lc, .int .i64 x.j.wl, .int .i64 x.j.lv, .int .i64 x.n, .int .i64 x.a, .int .i64 x.b, .int .i64 x.c] 28)) w.heap.size [.int .i64 0, .int .i64 0, .int .i64 0, .int .i64 0, .int .i64 0, .int .i64 0, .int .i64 0, .int .i64 0, .int .i64 0, .int .i64 0, .int .i64 0, .int .i64 0, .int .i64 0, .int .i64 0, .int .i64 0, .int .i64 0]) := HR.out.below (low_alloc _ _)
  replace HB : Hid (Below w.heap.size w (w2.alloc (.cells #[.int .i64 x.s, .int .i64 x.j.id, .int .i64 x.j.pr, .int .i64 x.j.nd, .int .i64 x.j.na, .int .i64 x.j.nb, .int .i64 x.j.nc, .int .i64 x.j.la, .int .i64 x.j.lb, .int .i64 x.j.lc, .int .i64 x.j.wl, .int .i64 x.j.lv, .int .i64 x.n, .int .i64 x.a, .int .i64 x.b, .int .i64 x.c] 28))) := behind_alloc HB.out _
  generalize w2.alloc (.cells #[.int .i64 x.s, .int .i64 x.j.id, .int .i64 x.j.pr, .int .i64 x.j.nd, .int .i64 x.j.na, .int .i64 x.j.nb, .int .i64 x.j.nc, .int .i64 x.j.la, .int .i64 x.j.lb, .int .i64 x.j.lc, .int .i64 x.j.wl, .int .i64 x.j.lv, .int .i64 x.n, .int .i64 x.a, .int .i64 x.b, .int .i64 x.c] 28) = u3 at HR HB HJ ⊢
  generalize w2.heap.size = q at HJ ⊢
  refine wpList_load_mid rfl 28 _ rfl q 0 rfl [.int .i64 x.s, .int .i64 x.j.id, .int .i64 x.j.pr, .int .i64 x.j.nd, .int .i64 x.j.na, .int .i64 x.j.nb, .int .i64 x.j.nc, .int .i64 x.j.la, .int .i64 x.j.lb, .int .i64 x.j.lc, .int .i64 x.j.wl, .int .i64 x.j.lv, .int .i64 x.n, .int .i64 x.a, .int .i64 x.b, .int .i64 x.c] _ HJ.out.all Tryd.underlying28 rfl szCmdC ?_
  go_wp2_with fail
  refine (HC.out _).mono ?_
  rintro e w3 ⟨rfl, hb⟩
  replace HR : Hid (Row w3 w.heap.size [.int .i64 0, .int .i64 0, .int .i64 0, .int .i64 0, .int .i64 0, .int .i64 0, .int .i64 0, .int .i64 0, .int .i64 0, .int .i64 0, .int .i64 0, .int .i64 0, .int .i64 0, .int .i64 0, .int .i64 0, .int .i64 0]) := HR.out.below hb
  replace HB : Hid (Below w.heap.size w w3) := below_then HB.out hb
  replace HJ : Hid (Row w3 q [.int .i64 x.s, .int .i64 x.j.id, .int .i64 x.j.pr, .int .i64 x.j.nd, .int .i64 x.j.na, .int .i64 x.j.nb, .int .i64 x.j.nc, .int .i64 x.j.la, .int .i64 x.j.lb, .int .i64 x.j.lc, .int .i64 x.j.wl, .int .i64 x.j.lv, .int .i64 x.n, .int .i64 x.a, .int .i64 x.b, .int .i64 x.c]) := HJ.out.below hb
  clear hb HC
  go_wp2_with (refine stay_store 28 ?_)
  refine ⟨?_⟩
  refine wpList_store_mid rfl 28 _ _ rfl w.heap.size 0 (#[.int .i64 0, .int .i64 0, .int .i64 0, .int .i64 0, .int .i64 0, .int .i64 0, .int .i64 0, .int .i64 0, .int .i64 0, .int .i64 0, .int .i64 0, .int .i64 0, .int .i64 0, .int .i64 0, .int .i64 0, .int .i64 0]) rfl rfl (HR.out.room 0 16 (by simp)) szCmdC (by simp [Value.oneCell']) ?_
  replace HR : Hid (Row (w3.setCells w.heap.size 0 (#[.int .i64 0, .int .i64 0, .int .i64 0, .int .i64 0, .int .i64 0, .int .i64 0, .int .i64 0, .int .i64 0, .int .i64 0, .int .i64 0, .int .i64 0, .int .i64 0, .int .i64 0, .int .i64 0, .int .i64 0, .int .i64 0] : Array Value).toList) w.heap.size [.int .i64 0, .int .i64 0, .int .i64 0, .int .i64 0, .int .i64 0, .int .i64 0, .int .i64 0, .int .i64 0, .int .i64 0, .int .i64 0, .int .i64 0, .int .i64 0, .int .i64 0, .int .i64 0, .int .i64 0, .int .i64 0]) := Row.setCs _ 0 HR.out (by simp)
  replace HB : Hid (Below w.heap.size w (w3.setCells w.heap.size 0 (#[.int .i64 0, .int .i64 0, .int .i64 0, .int .i64 0, .int .i64 0, .int .i64 0, .int .i64 0, .int .i64 0, .int .i64 0, .int .i64 0, .int .i64 0, .int .i64 0, .int .i64 0, .int .i64 0, .int .i64 0, .int .i64 0] : Array Value).toList)) := below_setCs (Nat.le_refl _) _ _ HB.out
  generalize w3.setCells w.heap.size 0 _ = u8 at HR HB ⊢
  go_wp2_with fail
  have r0 := HR.out.cell 0 _ rfl
  have r1 := HR.out.cell 1 _ rfl
  have r2 := HR.out.cell 2 _ rfl
  have r3 := HR.out.cell 3 _ rfl
  have r4 := HR.out.cell 4 _ rfl
  have r5 := HR.out.cell 5 _ rfl
  have r6 := HR.out.cell 6 _ rfl
  have r7 := HR.out.cell 7 _ rfl
  have r8 := HR.out.cell 8 _ rfl
  have r9 := HR.out.cell 9 _ rfl
  have r10 := HR.out.cell 10 _ rfl
  have r11 := HR.out.cell 11 _ rfl
  have r12 := HR.out.cell 12 _ rfl
  have r13 := HR.out.cell 13 _ rfl
  have r14 := HR.out.cell 14 _ rfl
  have r15 := HR.out.cell 15 _ rfl
  exact bodyPost_ret (v := .tuple #[.agg #[.int .i64 0, .int .i64 0, .int .i64 0, .int .i64 0, .int .i64 0, .int .i64 0, .int .i64 0, .int .i64 0, .int .i64 0, .int .i64 0, .int .i64 0, .int .i64 0, .int .i64 0, .int .i64 0, .int .i64 0, .int .i64 0], .bool false]) (by simp [results, Tryd.results9, go_sem, *]) rfl ⟨rfl, HB.out⟩

set_option maxHeartbeats 4000000 in
set_option maxRecDepth 100000 in
theorem implTextCmd_ne (s : ByteArray) (hs : s.size ≤ 1048576) (w : World) (hk : KwT w) (env : Env w) (x : Cm) (hx : rdC (pcs 32 s.data.toList) = x) (hok : cmdB x.s x.j x.n x.a x.b x.c = true) (ht : ctL x.s x.j x.n x.a x.b x.c ≠ s.data.toList) : Calls Tryd.prog 9 #[.string s] w fun e w' => e = .returned (.tuple #[.agg #[.int .i64 0, .int .i64 0, .int .i64 0, .int .i64 0, .int .i64 0, .int .i64 0, .int .i64 0, .int .i64 0, .int .i64 0, .int .i64 0, .int .i64 0, .int .i64 0, .int .i64 0, .int .i64 0, .int .i64 0, .int .i64 0], .bool false]) ∧ Below w.heap.size w w' := by
  have HK : Hid (KwT w) := hk
  have HE : Hid (Env w) := env
  have HP : Hid (pcs 32 s.data.toList ≠ []) := pcs_ne _ _
  have HPl : Hid (∀ p, p ∈ pcs 32 s.data.toList → p.length ≤ 1048576) := fun p hp => Nat.le_trans (pcs_size 32 s.data.toList p hp) hs
  have CP := fun W (hW : MaxL W) => implParts_cap s 32 hs W hW
  have CR2 : ∀ (g cap : Nat) (W : World), (pcs 32 s.data.toList).length ≤ cap → Row W g (strs (pcs 32 s.data.toList)) → KwT W → Env W → Calls Tryd.prog 30 #[.slice (some ⟨g, 0, none⟩) (pcs 32 s.data.toList).length cap] W fun e w' => e = .returned (.agg #[.int .i64 x.s, .int .i64 x.j.id, .int .i64 x.j.pr, .int .i64 x.j.nd, .int .i64 x.j.na, .int .i64 x.j.nb, .int .i64 x.j.nc, .int .i64 x.j.la, .int .i64 x.j.lb, .int .i64 x.j.lc, .int .i64 x.j.wl, .int .i64 x.j.lv, .int .i64 x.n, .int .i64 x.a, .int .i64 x.b, .int .i64 x.c]) ∧ Below W.heap.size W w' := fun g cap W hc h hk env => by
    have := readCmd_c g cap (pcs 32 s.data.toList) HP.out HPl.out hc W h hk env
    rw [hx] at this
    exact this
  clear HP HPl hk env hx
  generalize pcs 32 s.data.toList = P at CP CR2
  have HC : Hid (∀ W : World, Calls Tryd.prog 24 #[.agg #[.int .i64 x.s, .int .i64 x.j.id, .int .i64 x.j.pr, .int .i64 x.j.nd, .int .i64 x.j.na, .int .i64 x.j.nb, .int .i64 x.j.nc, .int .i64 x.j.la, .int .i64 x.j.lb, .int .i64 x.j.lc, .int .i64 x.j.wl, .int .i64 x.j.lv, .int .i64 x.n, .int .i64 x.a, .int .i64 x.b, .int .i64 x.c]] W fun e w' => e = .returned (.bool true) ∧ Below W.heap.size W w') := fun W => by have := implCmdOk_c x.s x.j x.n x.a x.b x.c W; rw [hok] at this; exact this
  clear hok
  have HX : Hid (∀ W : World, Tab W → KwT W → Calls Tryd.prog 7 #[.agg #[.int .i64 x.s, .int .i64 x.j.id, .int .i64 x.j.pr, .int .i64 x.j.nd, .int .i64 x.j.na, .int .i64 x.j.nb, .int .i64 x.j.nc, .int .i64 x.j.la, .int .i64 x.j.lb, .int .i64 x.j.lc, .int .i64 x.j.wl, .int .i64 x.j.lv, .int .i64 x.n, .int .i64 x.a, .int .i64 x.b, .int .i64 x.c]] W fun e w' => e = .returned (.string ⟨(ctL x.s x.j x.n x.a x.b x.c).toArray⟩) ∧ Below W.heap.size W w') := fun W h1 h2 => implCmdText_c x.s x.j x.n x.a x.b x.c W h1 h2
  obtain ⟨y, hy, hyl⟩ : ∃ y : ByteArray, (⟨(ctL x.s x.j x.n x.a x.b x.c).toArray⟩ : ByteArray) = y ∧ y.toList = ctL x.s x.j x.n x.a x.b x.c := ⟨_, rfl, by rw [ByteArray.toList_eq]⟩
  rw [hy] at HX
  clear hy
  rw [← hyl, ← ByteArray.toList_eq] at ht
  clear hyl
  have e1 : (y.toList == s.toList) = false := by rw [beq_eq_false_iff_ne]; exact ht
  have e2 : (s.toList == y.toList) = false := by rw [beq_eq_false_iff_ne]; exact fun t => ht t.symm
  clear ht
  go_enter Tryd.func9, Tryd.ntmps9
  go_wp2_with fail
  have HR : Hid (Row (w.alloc (.cells #[.int .i64 0, .int .i64 0, .int .i64 0, .int .i64 0, .int .i64 0, .int .i64 0, .int .i64 0, .int .i64 0, .int .i64 0, .int .i64 0, .int .i64 0, .int .i64 0, .int .i64 0, .int .i64 0, .int .i64 0, .int .i64 0] 28)) w.heap.size [.int .i64 0, .int .i64 0, .int .i64 0, .int .i64 0, .int .i64 0, .int .i64 0, .int .i64 0, .int .i64 0, .int .i64 0, .int .i64 0, .int .i64 0, .int .i64 0, .int .i64 0, .int .i64 0, .int .i64 0, .int .i64 0]) := row_fresh w [.int .i64 0, .int .i64 0, .int .i64 0, .int .i64 0, .int .i64 0, .int .i64 0, .int .i64 0, .int .i64 0, .int .i64 0, .int .i64 0, .int .i64 0, .int .i64 0, .int .i64 0, .int .i64 0, .int .i64 0, .int .i64 0] 28
  have HB : Hid (Below w.heap.size w (w.alloc (.cells #[.int .i64 0, .int .i64 0, .int .i64 0, .int .i64 0, .int .i64 0, .int .i64 0, .int .i64 0, .int .i64 0, .int .i64 0, .int .i64 0, .int .i64 0, .int .i64 0, .int .i64 0, .int .i64 0, .int .i64 0, .int .i64 0] 28))) := low_alloc _ _
  generalize w.alloc (.cells #[.int .i64 0, .int .i64 0, .int .i64 0, .int .i64 0, .int .i64 0, .int .i64 0, .int .i64 0, .int .i64 0, .int .i64 0, .int .i64 0, .int .i64 0, .int .i64 0, .int .i64 0, .int .i64 0, .int .i64 0, .int .i64 0] 28) = u0 at HR HB ⊢
  refine (CP _ (HE.out.on HB.out).2.2).mono ?_
  rintro e w1 ⟨g, cap, rfl, hcap, hr, hb⟩
  replace HR : Hid (Row w1 w.heap.size [.int .i64 0, .int .i64 0, .int .i64 0, .int .i64 0, .int .i64 0, .int .i64 0, .int .i64 0, .int .i64 0, .int .i64 0, .int .i64 0, .int .i64 0, .int .i64 0, .int .i64 0, .int .i64 0, .int .i64 0, .int .i64 0]) := HR.out.below hb
  replace HB : Hid (Below w.heap.size w w1) := below_then HB.out hb
  have HR1 : Hid (Row w1 g (strs P)) := hr
  have HCap : Hid (P.length ≤ cap) := hcap
  clear hr hb CP hcap
  go_wp2_with fail
  refine (CR2 g cap _ HCap.out HR1.out (HK.out.on HB.out) (HE.out.on HB.out)).mono ?_
  rintro e w2 ⟨rfl, hb⟩
  replace HR : Hid (Row w2 w.heap.size [.int .i64 0, .int .i64 0, .int .i64 0, .int .i64 0, .int .i64 0, .int .i64 0, .int .i64 0, .int .i64 0, .int .i64 0, .int .i64 0, .int .i64 0, .int .i64 0, .int .i64 0, .int .i64 0, .int .i64 0, .int .i64 0]) := HR.out.below hb
  replace HB : Hid (Below w.heap.size w w2) := below_then HB.out hb
  clear hb CR2 HR1 HCap
  go_wp2_with (refine stay_load 28 ?_)
  refine ⟨?_⟩
  have HJ : Hid (Row (w2.alloc (.cells #[.int .i64 x.s, .int .i64 x.j.id, .int .i64 x.j.pr, .int .i64 x.j.nd, .int .i64 x.j.na, .int .i64 x.j.nb, .int .i64 x.j.nc, .int .i64 x.j.la, .int .i64 x.j.lb, .int .i64 x.j.lc, .int .i64 x.j.wl, .int .i64 x.j.lv, .int .i64 x.n, .int .i64 x.a, .int .i64 x.b, .int .i64 x.c] 28)) w2.heap.size [.int .i64 x.s, .int .i64 x.j.id, .int .i64 x.j.pr, .int .i64 x.j.nd, .int .i64 x.j.na, .int .i64 x.j.nb, .int .i64 x.j.nc, .int .i64 x.j.la, .int .i64 x.j.lb, .int .i64 x.j.lc, .int .i64 x.j.wl, .int .i64 x.j.lv, .int .i64 x.n, .int .i64 x.a, .int .i64 x.b, .int .i64 x.c]) := row_fresh w2 [.int .i64 x.s, .int .i64 x.j.id, .int .i64 x.j.pr, .int .i64 x.j.nd, .int .i64 x.j.na, .int .i64 x.j.nb, .int .i64 x.j.nc, .int .i64 x.j.la, .int .i64 x.j.lb, .int .i64 x.j.lc, .int .i64 x.j.wl, .int .i64 x.j.lv, .int .i64 x.n, .int .i64 x.a, .int .i64 x.b, .int .i64 x.c] 28
  replace HR : Hid (Row (w2.alloc (.cells #[.int .i64 x.s, .int .i64 x.j.id, .int .i64 x.j.pr, .int .i64 x.j.nd, .int .i64 x.j.na, .int .i64 x.j.nb, .int .i64 x.j.nc, .int .i64 x.j.la, .int .i64 x.j.lb, .int .i64 x.j.lc, .int .i64 x.j.wl, .int .i64 x.j.lv, .int .i64 x.n, .int .i64 x.a, .int .i64 x.b, .int .i64 x.c] 28)) w.heap.size [.int .i64 0, .int .i64 0, .int .i64 0, .int .i64 0, .int .i64 0, .int .i64 0, .int .i64 0, .int .i64 0, .int .i64 0, .int .i64 0, .int .i64 0, .int .i64 0, .int .i64 0, .int .i64 0, .int .i64 0, .int .i64 0]) := HR.out.below (low_alloc _ _)
  replace HB : Hid (Below w.heap.size w (w2.alloc (.cells #[.int .i64 x.s, .int .i64 x.j.id, .int .i64 x.j.pr, .int .i64 x.j.nd, .int .i64 x.j.na, .int .i64 x.j.nb, .int .i64 x.j.nc, .int .i64 x.j.la, .int .i64 x.j.lb, .int .i64 x.j.lc, .int .i64 x.j.wl, .int .i64 x.j.lv, .int .i64 x.n, .int .i64 x.a, .int .i64 x.b, .int .i64 x.c] 28))) := behind_alloc HB.out _
  generalize w2.alloc (.cells #[.int .i64 x.s, .int .i64 x.j.id, .int .i64 x.j.pr, .int .i64 x.j.nd, .int .i64 x.j.na, .int .i64 x.j.nb, .int .i64 x.j.nc, .int .i64 x.j.la, .int .i64 x.j.lb, .int .i64 x.j.lc, .int .i64 x.j.wl, .int .i64 x.j.lv, .int .i64 x.n, .int .i64 x.a, .int .i64 x.b, .int .i64 x.c] 28) = u3 at HR HB HJ ⊢
  generalize w2.heap.size = q at HJ ⊢
  refine wpList_load_mid rfl 28 _ rfl q 0 rfl [.int .i64 x.s, .int .i64 x.j.id, .int .i64 x.j.pr, .int .i64 x.j.nd, .int .i64 x.j.na, .int .i64 x.j.nb, .int .i64 x.j.nc, .int .i64 x.j.la, .int .i64 x.j.lb, .int .i64 x.j.lc, .int .i64 x.j.wl, .int .i64 x.j.lv, .int .i64 x.n, .int .i64 x.a, .int .i64 x.b, .int .i64 x.c] _ HJ.out.all Tryd.underlying28 rfl szCmdC ?_
  go_wp2_with fail
  refine (HC.out _).mono ?_
  rintro e w3 ⟨rfl, hb⟩
  replace HR : Hid (Row w3 w.heap.size [.int .i64 0, .int .i64 0, .int .i64 0, .int .i64 0, .int .i64 0, .int .i64 0, .int .i64 0, .int .i64 0, .int .i64 0, .int .i64 0, .int .i64 0, .int .i64 0, .int .i64 0, .int .i64 0, .int .i64 0, .int .i64 0]) := HR.out.below hb
  replace HB : Hid (Below w.heap.size w w3) := below_then HB.out hb
  replace HJ : Hid (Row w3 q [.int .i64 x.s, .int .i64 x.j.id, .int .i64 x.j.pr, .int .i64 x.j.nd, .int .i64 x.j.na, .int .i64 x.j.nb, .int .i64 x.j.nc, .int .i64 x.j.la, .int .i64 x.j.lb, .int .i64 x.j.lc, .int .i64 x.j.wl, .int .i64 x.j.lv, .int .i64 x.n, .int .i64 x.a, .int .i64 x.b, .int .i64 x.c]) := HJ.out.below hb
  clear hb HC
  have d0 := HJ.out.cell 0 _ rfl
  have d1 := HJ.out.cell 1 _ rfl
  have d2 := HJ.out.cell 2 _ rfl
  have d3 := HJ.out.cell 3 _ rfl
  have d4 := HJ.out.cell 4 _ rfl
  have d5 := HJ.out.cell 5 _ rfl
  have d6 := HJ.out.cell 6 _ rfl
  have d7 := HJ.out.cell 7 _ rfl
  have d8 := HJ.out.cell 8 _ rfl
  have d9 := HJ.out.cell 9 _ rfl
  have d10 := HJ.out.cell 10 _ rfl
  have d11 := HJ.out.cell 11 _ rfl
  have d12 := HJ.out.cell 12 _ rfl
  have d13 := HJ.out.cell 13 _ rfl
  have d14 := HJ.out.cell 14 _ rfl
  have d15 := HJ.out.cell 15 _ rfl
  go_wp2_with fail
  clear d0 d1 d2 d3 d4 d5 d6 d7 d8 d9 d10 d11 d12 d13 d14 d15
  refine (HX.out _ (HE.out.on HB.out).1 (HK.out.on HB.out)).mono ?_
  rintro e w4 ⟨rfl, hb⟩
  replace HR : Hid (Row w4 w.heap.size [.int .i64 0, .int .i64 0, .int .i64 0, .int .i64 0, .int .i64 0, .int .i64 0, .int .i64 0, .int .i64 0, .int .i64 0, .int .i64 0, .int .i64 0, .int .i64 0, .int .i64 0, .int .i64 0, .int .i64 0, .int .i64 0]) := HR.out.below hb
  replace HB : Hid (Below w.heap.size w w4) := below_then HB.out hb
  replace HJ : Hid (Row w4 q [.int .i64 x.s, .int .i64 x.j.id, .int .i64 x.j.pr, .int .i64 x.j.nd, .int .i64 x.j.na, .int .i64 x.j.nb, .int .i64 x.j.nc, .int .i64 x.j.la, .int .i64 x.j.lb, .int .i64 x.j.lc, .int .i64 x.j.wl, .int .i64 x.j.lv, .int .i64 x.n, .int .i64 x.a, .int .i64 x.b, .int .i64 x.c]) := HJ.out.below hb
  clear hb HX
  go_wp2_with (refine stay_store 28 ?_)
  refine ⟨?_⟩
  refine wpList_store_mid rfl 28 _ _ rfl w.heap.size 0 (#[.int .i64 0, .int .i64 0, .int .i64 0, .int .i64 0, .int .i64 0, .int .i64 0, .int .i64 0, .int .i64 0, .int .i64 0, .int .i64 0, .int .i64 0, .int .i64 0, .int .i64 0, .int .i64 0, .int .i64 0, .int .i64 0]) rfl rfl (HR.out.room 0 16 (by simp)) szCmdC (by simp [Value.oneCell']) ?_
  replace HR : Hid (Row (w4.setCells w.heap.size 0 (#[.int .i64 0, .int .i64 0, .int .i64 0, .int .i64 0, .int .i64 0, .int .i64 0, .int .i64 0, .int .i64 0, .int .i64 0, .int .i64 0, .int .i64 0, .int .i64 0, .int .i64 0, .int .i64 0, .int .i64 0, .int .i64 0] : Array Value).toList) w.heap.size [.int .i64 0, .int .i64 0, .int .i64 0, .int .i64 0, .int .i64 0, .int .i64 0, .int .i64 0, .int .i64 0, .int .i64 0, .int .i64 0, .int .i64 0, .int .i64 0, .int .i64 0, .int .i64 0, .int .i64 0, .int .i64 0]) := Row.setCs _ 0 HR.out (by simp)
  replace HB : Hid (Below w.heap.size w (w4.setCells w.heap.size 0 (#[.int .i64 0, .int .i64 0, .int .i64 0, .int .i64 0, .int .i64 0, .int .i64 0, .int .i64 0, .int .i64 0, .int .i64 0, .int .i64 0, .int .i64 0, .int .i64 0, .int .i64 0, .int .i64 0, .int .i64 0, .int .i64 0] : Array Value).toList)) := below_setCs (Nat.le_refl _) _ _ HB.out
  generalize w4.setCells w.heap.size 0 _ = u8 at HR HB ⊢
  go_wp2_with fail
  have r0 := HR.out.cell 0 _ rfl
  have r1 := HR.out.cell 1 _ rfl
  have r2 := HR.out.cell 2 _ rfl
  have r3 := HR.out.cell 3 _ rfl
  have r4 := HR.out.cell 4 _ rfl
  have r5 := HR.out.cell 5 _ rfl
  have r6 := HR.out.cell 6 _ rfl
  have r7 := HR.out.cell 7 _ rfl
  have r8 := HR.out.cell 8 _ rfl
  have r9 := HR.out.cell 9 _ rfl
  have r10 := HR.out.cell 10 _ rfl
  have r11 := HR.out.cell 11 _ rfl
  have r12 := HR.out.cell 12 _ rfl
  have r13 := HR.out.cell 13 _ rfl
  have r14 := HR.out.cell 14 _ rfl
  have r15 := HR.out.cell 15 _ rfl
  exact bodyPost_ret (v := .tuple #[.agg #[.int .i64 0, .int .i64 0, .int .i64 0, .int .i64 0, .int .i64 0, .int .i64 0, .int .i64 0, .int .i64 0, .int .i64 0, .int .i64 0, .int .i64 0, .int .i64 0, .int .i64 0, .int .i64 0, .int .i64 0, .int .i64 0], .bool false]) (by simp [results, Tryd.results9, go_sem, *]) rfl ⟨rfl, HB.out⟩

set_option maxHeartbeats 4000000 in
set_option maxRecDepth 100000 in
theorem implTextCmd_eq (s : ByteArray) (hs : s.size ≤ 1048576) (w : World) (hk : KwT w) (env : Env w) (x : Cm) (hx : rdC (pcs 32 s.data.toList) = x) (hok : cmdB x.s x.j x.n x.a x.b x.c = true) (ht : ctL x.s x.j x.n x.a x.b x.c = s.data.toList) : Calls Tryd.prog 9 #[.string s] w fun e w' => e = .returned (.tuple #[.agg #[.int .i64 x.s, .int .i64 x.j.id, .int .i64 x.j.pr, .int .i64 x.j.nd, .int .i64 x.j.na, .int .i64 x.j.nb, .int .i64 x.j.nc, .int .i64 x.j.la, .int .i64 x.j.lb, .int .i64 x.j.lc, .int .i64 x.j.wl, .int .i64 x.j.lv, .int .i64 x.n, .int .i64 x.a, .int .i64 x.b, .int .i64 x.c], .bool true]) ∧ Below w.heap.size w w' := by
  have HK : Hid (KwT w) := hk
  have HE : Hid (Env w) := env
  have HP : Hid (pcs 32 s.data.toList ≠ []) := pcs_ne _ _
  have HPl : Hid (∀ p, p ∈ pcs 32 s.data.toList → p.length ≤ 1048576) := fun p hp => Nat.le_trans (pcs_size 32 s.data.toList p hp) hs
  have CP := fun W (hW : MaxL W) => implParts_cap s 32 hs W hW
  have CR2 : ∀ (g cap : Nat) (W : World), (pcs 32 s.data.toList).length ≤ cap → Row W g (strs (pcs 32 s.data.toList)) → KwT W → Env W → Calls Tryd.prog 30 #[.slice (some ⟨g, 0, none⟩) (pcs 32 s.data.toList).length cap] W fun e w' => e = .returned (.agg #[.int .i64 x.s, .int .i64 x.j.id, .int .i64 x.j.pr, .int .i64 x.j.nd, .int .i64 x.j.na, .int .i64 x.j.nb, .int .i64 x.j.nc, .int .i64 x.j.la, .int .i64 x.j.lb, .int .i64 x.j.lc, .int .i64 x.j.wl, .int .i64 x.j.lv, .int .i64 x.n, .int .i64 x.a, .int .i64 x.b, .int .i64 x.c]) ∧ Below W.heap.size W w' := fun g cap W hc h hk env => by
    have := readCmd_c g cap (pcs 32 s.data.toList) HP.out HPl.out hc W h hk env
    rw [hx] at this
    exact this
  clear HP HPl hk env hx
  generalize pcs 32 s.data.toList = P at CP CR2
  have HC : Hid (∀ W : World, Calls Tryd.prog 24 #[.agg #[.int .i64 x.s, .int .i64 x.j.id, .int .i64 x.j.pr, .int .i64 x.j.nd, .int .i64 x.j.na, .int .i64 x.j.nb, .int .i64 x.j.nc, .int .i64 x.j.la, .int .i64 x.j.lb, .int .i64 x.j.lc, .int .i64 x.j.wl, .int .i64 x.j.lv, .int .i64 x.n, .int .i64 x.a, .int .i64 x.b, .int .i64 x.c]] W fun e w' => e = .returned (.bool true) ∧ Below W.heap.size W w') := fun W => by have := implCmdOk_c x.s x.j x.n x.a x.b x.c W; rw [hok] at this; exact this
  clear hok
  have HX : Hid (∀ W : World, Tab W → KwT W → Calls Tryd.prog 7 #[.agg #[.int .i64 x.s, .int .i64 x.j.id, .int .i64 x.j.pr, .int .i64 x.j.nd, .int .i64 x.j.na, .int .i64 x.j.nb, .int .i64 x.j.nc, .int .i64 x.j.la, .int .i64 x.j.lb, .int .i64 x.j.lc, .int .i64 x.j.wl, .int .i64 x.j.lv, .int .i64 x.n, .int .i64 x.a, .int .i64 x.b, .int .i64 x.c]] W fun e w' => e = .returned (.string ⟨(ctL x.s x.j x.n x.a x.b x.c).toArray⟩) ∧ Below W.heap.size W w') := fun W h1 h2 => implCmdText_c x.s x.j x.n x.a x.b x.c W h1 h2
  obtain ⟨y, hy, hyl⟩ : ∃ y : ByteArray, (⟨(ctL x.s x.j x.n x.a x.b x.c).toArray⟩ : ByteArray) = y ∧ y.toList = ctL x.s x.j x.n x.a x.b x.c := ⟨_, rfl, by rw [ByteArray.toList_eq]⟩
  rw [hy] at HX
  clear hy
  rw [← hyl, ← ByteArray.toList_eq] at ht
  clear hyl
  have e1 : (y.toList == s.toList) = true := by rw [ht]; simp
  have e2 : (s.toList == y.toList) = true := by rw [ht]; simp
  clear ht
  go_enter Tryd.func9, Tryd.ntmps9
  go_wp2_with fail
  have HR : Hid (Row (w.alloc (.cells #[.int .i64 0, .int .i64 0, .int .i64 0, .int .i64 0, .int .i64 0, .int .i64 0, .int .i64 0, .int .i64 0, .int .i64 0, .int .i64 0, .int .i64 0, .int .i64 0, .int .i64 0, .int .i64 0, .int .i64 0, .int .i64 0] 28)) w.heap.size [.int .i64 0, .int .i64 0, .int .i64 0, .int .i64 0, .int .i64 0, .int .i64 0, .int .i64 0, .int .i64 0, .int .i64 0, .int .i64 0, .int .i64 0, .int .i64 0, .int .i64 0, .int .i64 0, .int .i64 0, .int .i64 0]) := row_fresh w [.int .i64 0, .int .i64 0, .int .i64 0, .int .i64 0, .int .i64 0, .int .i64 0, .int .i64 0, .int .i64 0, .int .i64 0, .int .i64 0, .int .i64 0, .int .i64 0, .int .i64 0, .int .i64 0, .int .i64 0, .int .i64 0] 28
  have HB : Hid (Below w.heap.size w (w.alloc (.cells #[.int .i64 0, .int .i64 0, .int .i64 0, .int .i64 0, .int .i64 0, .int .i64 0, .int .i64 0, .int .i64 0, .int .i64 0, .int .i64 0, .int .i64 0, .int .i64 0, .int .i64 0, .int .i64 0, .int .i64 0, .int .i64 0] 28))) := low_alloc _ _
  generalize w.alloc (.cells #[.int .i64 0, .int .i64 0, .int .i64 0, .int .i64 0, .int .i64 0, .int .i64 0, .int .i64 0, .int .i64 0, .int .i64 0, .int .i64 0, .int .i64 0, .int .i64 0, .int .i64 0, .int .i64 0, .int .i64 0, .int .i64 0] 28) = u0 at HR HB ⊢
  refine (CP _ (HE.out.on HB.out).2.2).mono ?_
  rintro e w1 ⟨g, cap, rfl, hcap, hr, hb⟩
  replace HR : Hid (Row w1 w.heap.size [.int .i64 0, .int .i64 0, .int .i64 0, .int .i64 0, .int .i64 0, .int .i64 0, .int .i64 0, .int .i64 0, .int .i64 0, .int .i64 0, .int .i64 0, .int .i64 0, .int .i64 0, .int .i64 0, .int .i64 0, .int .i64 0]) := HR.out.below hb
  replace HB : Hid (Below w.heap.size w w1) := below_then HB.out hb
  have HR1 : Hid (Row w1 g (strs P)) := hr
  have HCap : Hid (P.length ≤ cap) := hcap
  clear hr hb CP hcap
  go_wp2_with fail
  refine (CR2 g cap _ HCap.out HR1.out (HK.out.on HB.out) (HE.out.on HB.out)).mono ?_
  rintro e w2 ⟨rfl, hb⟩
  replace HR : Hid (Row w2 w.heap.size [.int .i64 0, .int .i64 0, .int .i64 0, .int .i64 0, .int .i64 0, .int .i64 0, .int .i64 0, .int .i64 0, .int .i64 0, .int .i64 0, .int .i64 0, .int .i64 0, .int .i64 0, .int .i64 0, .int .i64 0, .int .i64 0]) := HR.out.below hb
  replace HB : Hid (Below w.heap.size w w2) := below_then HB.out hb
  clear hb CR2 HR1 HCap
  go_wp2_with (refine stay_load 28 ?_)
  refine ⟨?_⟩
  have HJ : Hid (Row (w2.alloc (.cells #[.int .i64 x.s, .int .i64 x.j.id, .int .i64 x.j.pr, .int .i64 x.j.nd, .int .i64 x.j.na, .int .i64 x.j.nb, .int .i64 x.j.nc, .int .i64 x.j.la, .int .i64 x.j.lb, .int .i64 x.j.lc, .int .i64 x.j.wl, .int .i64 x.j.lv, .int .i64 x.n, .int .i64 x.a, .int .i64 x.b, .int .i64 x.c] 28)) w2.heap.size [.int .i64 x.s, .int .i64 x.j.id, .int .i64 x.j.pr, .int .i64 x.j.nd, .int .i64 x.j.na, .int .i64 x.j.nb, .int .i64 x.j.nc, .int .i64 x.j.la, .int .i64 x.j.lb, .int .i64 x.j.lc, .int .i64 x.j.wl, .int .i64 x.j.lv, .int .i64 x.n, .int .i64 x.a, .int .i64 x.b, .int .i64 x.c]) := row_fresh w2 [.int .i64 x.s, .int .i64 x.j.id, .int .i64 x.j.pr, .int .i64 x.j.nd, .int .i64 x.j.na, .int .i64 x.j.nb, .int .i64 x.j.nc, .int .i64 x.j.la, .int .i64 x.j.lb, .int .i64 x.j.lc, .int .i64 x.j.wl, .int .i64 x.j.lv, .int .i64 x.n, .int .i64 x.a, .int .i64 x.b, .int .i64 x.c] 28
  replace HR : Hid (Row (w2.alloc (.cells #[.int .i64 x.s, .int .i64 x.j.id, .int .i64 x.j.pr, .int .i64 x.j.nd, .int .i64 x.j.na, .int .i64 x.j.nb, .int .i64 x.j.nc, .int .i64 x.j.la, .int .i64 x.j.lb, .int .i64 x.j.lc, .int .i64 x.j.wl, .int .i64 x.j.lv, .int .i64 x.n, .int .i64 x.a, .int .i64 x.b, .int .i64 x.c] 28)) w.heap.size [.int .i64 0, .int .i64 0, .int .i64 0, .int .i64 0, .int .i64 0, .int .i64 0, .int .i64 0, .int .i64 0, .int .i64 0, .int .i64 0, .int .i64 0, .int .i64 0, .int .i64 0, .int .i64 0, .int .i64 0, .int .i64 0]) := HR.out.below (low_alloc _ _)
  replace HB : Hid (Below w.heap.size w (w2.alloc (.cells #[.int .i64 x.s, .int .i64 x.j.id, .int .i64 x.j.pr, .int .i64 x.j.nd, .int .i64 x.j.na, .int .i64 x.j.nb, .int .i64 x.j.nc, .int .i64 x.j.la, .int .i64 x.j.lb, .int .i64 x.j.lc, .int .i64 x.j.wl, .int .i64 x.j.lv, .int .i64 x.n, .int .i64 x.a, .int .i64 x.b, .int .i64 x.c] 28))) := behind_alloc HB.out _
  generalize w2.alloc (.cells #[.int .i64 x.s, .int .i64 x.j.id, .int .i64 x.j.pr, .int .i64 x.j.nd, .int .i64 x.j.na, .int .i64 x.j.nb, .int .i64 x.j.nc, .int .i64 x.j.la, .int .i64 x.j.lb, .int .i64 x.j.lc, .int .i64 x.j.wl, .int .i64 x.j.lv, .int .i64 x.n, .int .i64 x.a, .int .i64 x.b, .int .i64 x.c] 28) = u3 at HR HB HJ ⊢
  generalize w2.heap.size = q at HJ ⊢
  refine wpList_load_mid rfl 28 _ rfl q 0 rfl [.int .i64 x.s, .int .i64 x.j.id, .int .i64 x.j.pr, .int .i64 x.j.nd, .int .i64 x.j.na, .int .i64 x.j.nb, .int .i64 x.j.nc, .int .i64 x.j.la, .int .i64 x.j.lb, .int .i64 x.j.lc, .int .i64 x.j.wl, .int .i64 x.j.lv, .int .i64 x.n, .int .i64 x.a, .int .i64 x.b, .int .i64 x.c] _ HJ.out.all Tryd.underlying28 rfl szCmdC ?_
  go_wp2_with fail
  refine (HC.out _).mono ?_
  rintro e w3 ⟨rfl, hb⟩
  replace HR : Hid (Row w3 w.heap.size [.int .i64 0, .int .i64 0, .int .i64 0, .int .i64 0, .int .i64 0, .int .i64 0, .int .i64 0, .int .i64 0, .int .i64 0, .int .i64 0, .int .i64 0, .int .i64 0, .int .i64 0, .int .i64 0, .int .i64 0, .int .i64 0]) := HR.out.below hb
  replace HB : Hid (Below w.heap.size w w3) := below_then HB.out hb
  replace HJ : Hid (Row w3 q [.int .i64 x.s, .int .i64 x.j.id, .int .i64 x.j.pr, .int .i64 x.j.nd, .int .i64 x.j.na, .int .i64 x.j.nb, .int .i64 x.j.nc, .int .i64 x.j.la, .int .i64 x.j.lb, .int .i64 x.j.lc, .int .i64 x.j.wl, .int .i64 x.j.lv, .int .i64 x.n, .int .i64 x.a, .int .i64 x.b, .int .i64 x.c]) := HJ.out.below hb
  clear hb HC
  have d0 := HJ.out.cell 0 _ rfl
  have d1 := HJ.out.cell 1 _ rfl
  have d2 := HJ.out.cell 2 _ rfl
  have d3 := HJ.out.cell 3 _ rfl
  have d4 := HJ.out.cell 4 _ rfl
  have d5 := HJ.out.cell 5 _ rfl
  have d6 := HJ.out.cell 6 _ rfl
  have d7 := HJ.out.cell 7 _ rfl
  have d8 := HJ.out.cell 8 _ rfl
  have d9 := HJ.out.cell 9 _ rfl
  have d10 := HJ.out.cell 10 _ rfl
  have d11 := HJ.out.cell 11 _ rfl
  have d12 := HJ.out.cell 12 _ rfl
  have d13 := HJ.out.cell 13 _ rfl
  have d14 := HJ.out.cell 14 _ rfl
  have d15 := HJ.out.cell 15 _ rfl
  go_wp2_with fail
  clear d0 d1 d2 d3 d4 d5 d6 d7 d8 d9 d10 d11 d12 d13 d14 d15
  refine (HX.out _ (HE.out.on HB.out).1 (HK.out.on HB.out)).mono ?_
  rintro e w4 ⟨rfl, hb⟩
  replace HR : Hid (Row w4 w.heap.size [.int .i64 0, .int .i64 0, .int .i64 0, .int .i64 0, .int .i64 0, .int .i64 0, .int .i64 0, .int .i64 0, .int .i64 0, .int .i64 0, .int .i64 0, .int .i64 0, .int .i64 0, .int .i64 0, .int .i64 0, .int .i64 0]) := HR.out.below hb
  replace HB : Hid (Below w.heap.size w w4) := below_then HB.out hb
  replace HJ : Hid (Row w4 q [.int .i64 x.s, .int .i64 x.j.id, .int .i64 x.j.pr, .int .i64 x.j.nd, .int .i64 x.j.na, .int .i64 x.j.nb, .int .i64 x.j.nc, .int .i64 x.j.la, .int .i64 x.j.lb, .int .i64 x.j.lc, .int .i64 x.j.wl, .int .i64 x.j.lv, .int .i64 x.n, .int .i64 x.a, .int .i64 x.b, .int .i64 x.c]) := HJ.out.below hb
  clear hb HX
  go_wp2_with (refine stay_load 28 ?_)
  refine ⟨?_⟩
  refine wpList_load_mid rfl 28 _ rfl q 0 rfl [.int .i64 x.s, .int .i64 x.j.id, .int .i64 x.j.pr, .int .i64 x.j.nd, .int .i64 x.j.na, .int .i64 x.j.nb, .int .i64 x.j.nc, .int .i64 x.j.la, .int .i64 x.j.lb, .int .i64 x.j.lc, .int .i64 x.j.wl, .int .i64 x.j.lv, .int .i64 x.n, .int .i64 x.a, .int .i64 x.b, .int .i64 x.c] _ HJ.out.all Tryd.underlying28 rfl szCmdC ?_
  go_wp2_with (refine stay_store 28 ?_)
  refine ⟨?_⟩
  refine wpList_store_mid rfl 28 _ _ rfl w.heap.size 0 (#[.int .i64 x.s, .int .i64 x.j.id, .int .i64 x.j.pr, .int .i64 x.j.nd, .int .i64 x.j.na, .int .i64 x.j.nb, .int .i64 x.j.nc, .int .i64 x.j.la, .int .i64 x.j.lb, .int .i64 x.j.lc, .int .i64 x.j.wl, .int .i64 x.j.lv, .int .i64 x.n, .int .i64 x.a, .int .i64 x.b, .int .i64 x.c]) rfl rfl (HR.out.room 0 16 (by simp)) szCmdC (by simp [Value.oneCell']) ?_
  replace HR : Hid (Row (w4.setCells w.heap.size 0 (#[.int .i64 x.s, .int .i64 x.j.id, .int .i64 x.j.pr, .int .i64 x.j.nd, .int .i64 x.j.na, .int .i64 x.j.nb, .int .i64 x.j.nc, .int .i64 x.j.la, .int .i64 x.j.lb, .int .i64 x.j.lc, .int .i64 x.j.wl, .int .i64 x.j.lv, .int .i64 x.n, .int .i64 x.a, .int .i64 x.b, .int .i64 x.c] : Array Value).toList) w.heap.size [.int .i64 x.s, .int .i64 x.j.id, .int .i64 x.j.pr, .int .i64 x.j.nd, .int .i64 x.j.na, .int .i64 x.j.nb, .int .i64 x.j.nc, .int .i64 x.j.la, .int .i64 x.j.lb, .int .i64 x.j.lc, .int .i64 x.j.wl, .int .i64 x.j.lv, .int .i64 x.n, .int .i64 x.a, .int .i64 x.b, .int .i64 x.c]) := Row.setCs _ 0 HR.out (by simp)
  replace HB : Hid (Below w.heap.size w (w4.setCells w.heap.size 0 (#[.int .i64 x.s, .int .i64 x.j.id, .int .i64 x.j.pr, .int .i64 x.j.nd, .int .i64 x.j.na, .int .i64 x.j.nb, .int .i64 x.j.nc, .int .i64 x.j.la, .int .i64 x.j.lb, .int .i64 x.j.lc, .int .i64 x.j.wl, .int .i64 x.j.lv, .int .i64 x.n, .int .i64 x.a, .int .i64 x.b, .int .i64 x.c] : Array Value).toList)) := below_setCs (Nat.le_refl _) _ _ HB.out
  generalize w4.setCells w.heap.size 0 _ = u8 at HR HB ⊢
  go_wp2_with fail
  have r0 := HR.out.cell 0 _ rfl
  have r1 := HR.out.cell 1 _ rfl
  have r2 := HR.out.cell 2 _ rfl
  have r3 := HR.out.cell 3 _ rfl
  have r4 := HR.out.cell 4 _ rfl
  have r5 := HR.out.cell 5 _ rfl
  have r6 := HR.out.cell 6 _ rfl
  have r7 := HR.out.cell 7 _ rfl
  have r8 := HR.out.cell 8 _ rfl
  have r9 := HR.out.cell 9 _ rfl
  have r10 := HR.out.cell 10 _ rfl
  have r11 := HR.out.cell 11 _ rfl
  have r12 := HR.out.cell 12 _ rfl
  have r13 := HR.out.cell 13 _ rfl
  have r14 := HR.out.cell 14 _ rfl
  have r15 := HR.out.cell 15 _ rfl
  exact bodyPost_ret (v := .tuple #[.agg #[.int .i64 x.s, .int .i64 x.j.id, .int .i64 x.j.pr, .int .i64 x.j.nd, .int .i64 x.j.na, .int .i64 x.j.nb, .int .i64 x.j.nc, .int .i64 x.j.la, .int .i64 x.j.lb, .int .i64 x.j.lc, .int .i64 x.j.wl, .int .i64 x.j.lv, .int .i64 x.n, .int .i64 x.a, .int .i64 x.b, .int .i64 x.c], .bool true]) (by simp [results, Tryd.results9, go_sem, *]) rfl ⟨rfl, HB.out⟩

theorem implTextCmd_c (s : ByteArray) (hs : s.size ≤ 1048576) (w : World) (hk : KwT w) (env : Env w) : Calls Tryd.prog 9 #[.string s] w fun e w' => e = .returned (.tuple #[.agg (tcR s.data.toList).1.cells.toArray, .bool (tcR s.data.toList).2]) ∧ Below w.heap.size w w' := by
  unfold tcR
  generalize hx : rdC (pcs 32 s.data.toList) = x
  cases hok : cmdB x.s x.j x.n x.a x.b x.c
  · rw [if_neg (fun t => by cases t.1)]
    exact implTextCmd_no s hs w hk env x hx hok
  · by_cases ht : ctL x.s x.j x.n x.a x.b x.c = s.data.toList
    · rw [if_pos ⟨rfl, ht⟩]
      exact implTextCmd_eq s hs w hk env x hx hok ht
    · rw [if_neg (fun t => ht t.2)]
      exact implTextCmd_ne s hs w hk env x hx hok ht
end Go.Proofs.YtejleghdgdbbnaaDoor

namespace Go.Proofs.YtejleghdgdbbnaaDoor
theorem ctL_ne' (x : Cm) (h : cmdB x.s x.j x.n x.a x.b x.c = true) : ctL x.s x.j x.n x.a x.b x.c ≠ [] := by
  rw [ctL, h]
  have h7 := cmdB_seven h
  intro e
  have e2 : (Lib.join (cwL x.s x.j x.n x.a x.b x.c) [32]).length = 0 := by
    have : Lib.join (cwL x.s x.j x.n x.a x.b x.c) [32] = [] := e
    rw [this]; rfl
  rcases h7 with h | h | h | h | h | h | h <;> (rw [h] at e2; simp [cwL, jwL, Lib.join, kwL, kws] at e2)
theorem ba_toL (l : List UInt8) : (⟨l.toArray⟩ : ByteArray).toList = l := by rw [ByteArray.toList_eq]
end Go.Proofs.YtejleghdgdbbnaaDoor

namespace Go.Proofs.YtejleghdgdbbnaaDoor
open Go.RowKit

theorem num_no_blank (n : Int) : (32 : UInt8) ∉ numL n := by
  intro hm
  obtain ⟨k, hk⟩ := List.getElem?_of_mem hm
  cases h : timB n
  · rw [numL, h] at hk; simp at hk
  · rw [numL, h] at hk
    have h2 := decFrom_none _ 0 k 32 hk rfl
    have h3 := decFrom_digits _ n.toNat (Nat.le_refl _)
    simp only [cond_true] at h2
    rw [h2] at h3
    cases h3
theorem vt_no_blank (a b c : Int) : (32 : UInt8) ∉ vtL a b c := by
  unfold vtL
  cases vokB a b c
  · simp
  · simp only [cond_true, List.mem_append, List.mem_cons, List.not_mem_nil, or_false, not_or]
    exact ⟨⟨⟨⟨num_no_blank a, by decide⟩, num_no_blank b⟩, by decide⟩, num_no_blank c⟩
theorem kw_no_blank (s : Int) : (32 : UInt8) ∉ kwL s := by
  unfold kwL
  generalize s.toNat = k
  match k with
  | 0 => decide
  | 1 => decide
  | 2 => decide
  | 3 => decide
  | 4 => decide
  | 5 => decide
  | 6 => decide
  | 7 => decide
  | k + 8 => simp [kws]
theorem not_at {b : UInt8} {l : List UInt8} (h : b ∉ l) : ∀ k : Nat, l[k]? ≠ some b := fun _ hk => h (List.mem_of_getElem? hk)
theorem pcs_join (b : UInt8) : ∀ (x : List UInt8) (ws : List (List UInt8)), (∀ w ∈ x :: ws, b ∉ w) → pcs b (Lib.join (x :: ws) [b]) = x :: ws
  | x, [], h => by
    have e : Lib.join [x] [b] = x := Lib.join_one x [b]
    rw [e]
    exact pcs_none b x (not_at (h x (by simp)))
  | x, y :: ws, h => by
    have e : Lib.join (x :: y :: ws) [b] = x ++ b :: Lib.join (y :: ws) [b] := by simp [Lib.join, List.intercalate]
    rw [e, pcs_at b _ _ (not_at (h x (by simp))), pcs_join b y ws (fun w hw => h w (List.mem_cons_of_mem _ hw))]

theorem vt_again {a b c : Int} (h : vokB a b c = true) : tvR (vtL a b c) = ((a, b, c), true) := by
  have hne : vtL a b c ≠ [] := by
    intro e
    have := vt_pcs h
    rw [e] at this
    simp [pcs] at this
  obtain ⟨_, hp, ta, tb, tc⟩ := tv_yes hne rfl
  have e0 : pn (pcs 47 (vtL a b c)) 0 = a := by rw [hp, (pn_three _ _ _).1, tn_num ta]
  have e1 : pn (pcs 47 (vtL a b c)) 1 = b := by rw [hp, (pn_three _ _ _).2.1, tn_num tb]
  have e2 : pn (pcs 47 (vtL a b c)) 2 = c := by rw [hp, (pn_three _ _ _).2.2, tn_num tc]
  rw [tv_true (by rw [e0, e1, e2]), e0, e1, e2]
theorem tim_of {n lo hi : Int} (h : btwB lo n hi = true) (h0 : 0 ≤ lo) (h1 : hi ≤ 1000000000) : timB n = true := by
  have := btw_iff.1 h
  simp [timB]; omega
theorem jb_zero {j : Jb} (h : jeB j jb0 = true) : j = jb0 := by
  obtain ⟨i0, i1, i2, i3, i4, i5, i6, i7, i8, i9, i10⟩ := j
  simp [jeB, veB, jb0] at h ⊢
  omega
theorem ve_zero {a b c : Int} (h : veB a b c 0 0 0 = true) : a = 0 ∧ b = 0 ∧ c = 0 := by
  simp [veB] at h
  omega
theorem jrd_again {j : Jb} (h : jobB j = true) : jrd (numL j.id) (numL j.pr) (numL j.nd) (vtL j.na j.nb j.nc) (vtL j.la j.lb j.lc) (numL j.wl) (numL j.lv) = j := by
  simp only [jobB, Bool.and_eq_true] at h
  obtain ⟨h1, h2, h3, h4, h5, h6, h7⟩ := h
  unfold jrd
  rw [tn_num (tim_of h1 (by omega) (by omega)), tn_num (tim_of h2 (by omega) (by omega)), tn_num (tim_of h3 (by omega) (by omega)), vt_again h4, vt_again h5, tn_num (tim_of h6 (by omega) (by omega)), tn_num (tim_of h7 (by omega) (by omega))]

theorem cw_pcs (s : Int) (j : Jb) (n a b c : Int) : pcs 32 (Lib.join (cwL s j n a b c) [32]) = cwL s j n a b c := by
  unfold cwL
  split
  · refine pcs_join 32 _ _ ?_
    intro w hw
    simp only [jwL, List.mem_cons, List.not_mem_nil, or_false] at hw
    rcases hw with rfl | rfl | rfl | rfl | rfl | rfl | rfl | rfl
    · exact kw_no_blank _
    · exact num_no_blank _
    · exact num_no_blank _
    · exact num_no_blank _
    · exact vt_no_blank _ _ _
    · exact vt_no_blank _ _ _
    · exact num_no_blank _
    · exact num_no_blank _
  · split
    · refine pcs_join 32 _ _ ?_
      intro w hw
      simp only [List.mem_cons, List.not_mem_nil, or_false] at hw
      rcases hw with rfl | rfl
      · exact kw_no_blank _
      · exact vt_no_blank _ _ _
    · refine pcs_join 32 _ _ ?_
      intro w hw
      simp only [List.mem_cons, List.not_mem_nil, or_false] at hw
      rcases hw with rfl | rfl
      · exact kw_no_blank _
      · exact num_no_blank _

/-- What is written is read again. -/
theorem tc_again (s : Int) (j : Jb) (n a b c : Int) (h : cmdB s j n a b c = true) : tcR (ctL s j n a b c) = (⟨s, j, n, a, b, c⟩, true) := by
  have hct : ctL s j n a b c = Lib.join (cwL s j n a b c) [32] := by rw [ctL, h]; rfl
  have hr : rdC (cwL s j n a b c) = ⟨s, j, n, a, b, c⟩ := by
    have h7 := cmdB_seven h
    have num : ∀ (k : Int) (hk : kdN (kwL k) ≠ 6) (hk1 : (kdN (kwL k) : Int) = k), cwL k j n a b c = [kwL k, numL n] → j = jb0 → a = 0 ∧ b = 0 ∧ c = 0 → timB n = true → rdC (cwL k j n a b c) = ⟨k, j, n, a, b, c⟩ := fun k hk hk1 hc hj hz ht => by
      obtain ⟨rfl, rfl, rfl⟩ := hz
      rw [hc, hj]
      unfold rdC
      rw [if_neg (fun t => by have := t.1; simp at this), if_neg (fun t => hk t.2), if_pos (show [kwL k, numL n].length = 2 from rfl)]
      show (⟨(kdN (kwL k) : Int), jb0, (tnR (numL n)).1, 0, 0, 0⟩ : Cm) = _
      rw [hk1, tn_num ht]
    rcases h7 with rfl | rfl | rfl | rfl | rfl | rfl | rfl
    · simp only [cmdB, if_pos, Bool.and_eq_true, beq_iff_eq] at h
      obtain ⟨hj, hn, hv⟩ := h
      obtain ⟨rfl, rfl, rfl⟩ := ve_zero hv
      subst hn
      show rdC (kwL 1 :: jwL j) = _
      unfold rdC
      rw [if_pos ⟨rfl, rfl⟩]
      show (⟨1, jrd (numL j.id) (numL j.pr) (numL j.nd) (vtL j.na j.nb j.nc) (vtL j.la j.lb j.lc) (numL j.wl) (numL j.lv), 0, 0, 0, 0⟩ : Cm) = _
      rw [jrd_again hj]
    · have h' : (btwB 1 n 999 && (jeB j jb0 && veB a b c 0 0 0)) = true := h
      simp only [Bool.and_eq_true] at h'
      exact num 2 (by decide) rfl rfl (jb_zero h'.2.1) (ve_zero h'.2.2) (tim_of h'.1 (by omega) (by omega))
    · have h' : (btwB 1 n 999 && (jeB j jb0 && veB a b c 0 0 0)) = true := h
      simp only [Bool.and_eq_true] at h'
      exact num 3 (by decide) rfl rfl (jb_zero h'.2.1) (ve_zero h'.2.2) (tim_of h'.1 (by omega) (by omega))
    · have h' : (btwB 0 n 23 && (jeB j jb0 && veB a b c 0 0 0)) = true := h
      simp only [Bool.and_eq_true] at h'
      exact num 4 (by decide) rfl rfl (jb_zero h'.2.1) (ve_zero h'.2.2) (tim_of h'.1 (by omega) (by omega))
    · have h' : (btwB 0 n 23 && (jeB j jb0 && veB a b c 0 0 0)) = true := h
      simp only [Bool.and_eq_true] at h'
      exact num 5 (by decide) rfl rfl (jb_zero h'.2.1) (ve_zero h'.2.2) (tim_of h'.1 (by omega) (by omega))
    · have h' : (vokB a b c && (jeB j jb0 && n == 0)) = true := h
      simp only [Bool.and_eq_true, beq_iff_eq] at h'
      obtain ⟨hv, hj, rfl⟩ := h'
      have hj0 := jb_zero hj
      subst hj0
      show rdC [kwL 6, vtL a b c] = _
      unfold rdC
      rw [if_neg (fun t => by have := t.1; simp at this), if_pos ⟨rfl, rfl⟩]
      show (⟨6, jb0, 0, (tvR (vtL a b c)).1.1, (tvR (vtL a b c)).1.2.1, (tvR (vtL a b c)).1.2.2⟩ : Cm) = _
      rw [vt_again hv]
    · have h' : (timB n && (jeB j jb0 && veB a b c 0 0 0)) = true := h
      simp only [Bool.and_eq_true] at h'
      exact num 7 (by decide) rfl rfl (jb_zero h'.2.1) (ve_zero h'.2.2) h'.1
  unfold tcR
  rw [hct, cw_pcs, hr, ← hct, if_pos ⟨h, rfl⟩]
end Go.Proofs.YtejleghdgdbbnaaDoor

namespace Go.Proofs.YtejleghdgdbbnaaDoor
open Go.ChangeShapes Go.WideShapes Go.ChangeAt Go.RowKit

theorem ceq_self (x : Cm) (W : World) : (Op.equalIn 10000 28 (.agg #[.int .i64 x.s, .int .i64 x.j.id, .int .i64 x.j.pr, .int .i64 x.j.nd, .int .i64 x.j.na, .int .i64 x.j.nb, .int .i64 x.j.nc, .int .i64 x.j.la, .int .i64 x.j.lb, .int .i64 x.j.lc, .int .i64 x.j.wl, .int .i64 x.j.lv, .int .i64 x.n, .int .i64 x.a, .int .i64 x.b, .int .i64 x.c]) (.agg #[.int .i64 x.s, .int .i64 x.j.id, .int .i64 x.j.pr, .int .i64 x.j.nd, .int .i64 x.j.na, .int .i64 x.j.nb, .int .i64 x.j.nc, .int .i64 x.j.la, .int .i64 x.j.lb, .int .i64 x.j.lc, .int .i64 x.j.wl, .int .i64 x.j.lv, .int .i64 x.n, .int .i64 x.a, .int .i64 x.b, .int .i64 x.c])).run Tryd.prog W = .ok true W := by
  have h := eq_cmd 9996 x.s x.j x.n x.a x.b x.c x.s x.j x.n x.a x.b x.c W
  rw [show ceB x.s x.j x.n x.a x.b x.c x.s x.j x.n x.a x.b x.c = true by simp [ceB, jeB_self, veB_self]] at h
  exact h
theorem ctL_len (s : Int) (j : Jb) (n a b c : Int) : (ctL s j n a b c).length ≤ 500 := by
  unfold ctL
  cases cmdB s j n a b c
  · exact Nat.zero_le _
  · exact cw_len s j n a b c
theorem tcR_nil : tcR [] = (cm0, false) := by
  unfold tcR
  rw [if_neg]
  rintro ⟨h, h2⟩
  exact ctL_ne' _ h h2
set_option maxHeartbeats 4000000 in
set_option maxRecDepth 100000 in
theorem fnCmd_walk (p : Option Addr) (n cap : Nat) (w : World) (hn : n ≤ maxLen) (hc : n ≤ 1048576 → CodeIs w p n) (hk : KwT w) (env : Env w) :
    Calls Tryd.prog 3 #[.slice p n cap] w fun e w' => e = .returned (.bool true) ∧ Below w.heap.size w w' := by
  have HE : Hid (Env w) := env
  have HK : Hid (KwT w) := hk
  clear env hk
  by_cases hl : 1048576 < n
  · unfold maxLen at hn
    clear hc
    go_enter Tryd.func3, Tryd.ntmps3
    go_wp2_with fail
    go_ret
    exact ⟨rfl, by go_grown⟩
  · have hl' : n ≤ 1048576 := by omega
    have H : Hid (CodeIs w p n) := hc hl'
    clear hc hl hn
    go_enter Tryd.func3, Tryd.ntmps3
    go_wp2_with fail
    refine (drawCmdText_c p n cap _ H.out).mono ?_
    rintro e w1 ⟨x, rfl, hb⟩
    have HB : Hid (Below w.heap.size w w1) := hb
    clear hb H
    go_wp2_with (refine stay_load 28 ?_)
    refine ⟨?_⟩
    have HX : Hid (Row (w1.alloc (.cells #[.int .i64 x.s, .int .i64 x.j.id, .int .i64 x.j.pr, .int .i64 x.j.nd, .int .i64 x.j.na, .int .i64 x.j.nb, .int .i64 x.j.nc, .int .i64 x.j.la, .int .i64 x.j.lb, .int .i64 x.j.lc, .int .i64 x.j.wl, .int .i64 x.j.lv, .int .i64 x.n, .int .i64 x.a, .int .i64 x.b, .int .i64 x.c] 28)) w1.heap.size [.int .i64 x.s, .int .i64 x.j.id, .int .i64 x.j.pr, .int .i64 x.j.nd, .int .i64 x.j.na, .int .i64 x.j.nb, .int .i64 x.j.nc, .int .i64 x.j.la, .int .i64 x.j.lb, .int .i64 x.j.lc, .int .i64 x.j.wl, .int .i64 x.j.lv, .int .i64 x.n, .int .i64 x.a, .int .i64 x.b, .int .i64 x.c]) := row_new w1 [.int .i64 x.s, .int .i64 x.j.id, .int .i64 x.j.pr, .int .i64 x.j.nd, .int .i64 x.j.na, .int .i64 x.j.nb, .int .i64 x.j.nc, .int .i64 x.j.la, .int .i64 x.j.lb, .int .i64 x.j.lc, .int .i64 x.j.wl, .int .i64 x.j.lv, .int .i64 x.n, .int .i64 x.a, .int .i64 x.b, .int .i64 x.c] 28
    replace HB : Hid (Below w.heap.size w (w1.alloc (.cells #[.int .i64 x.s, .int .i64 x.j.id, .int .i64 x.j.pr, .int .i64 x.j.nd, .int .i64 x.j.na, .int .i64 x.j.nb, .int .i64 x.j.nc, .int .i64 x.j.la, .int .i64 x.j.lb, .int .i64 x.j.lc, .int .i64 x.j.wl, .int .i64 x.j.lv, .int .i64 x.n, .int .i64 x.a, .int .i64 x.b, .int .i64 x.c] 28))) := behind_alloc HB.out _
    generalize w1.alloc (.cells #[.int .i64 x.s, .int .i64 x.j.id, .int .i64 x.j.pr, .int .i64 x.j.nd, .int .i64 x.j.na, .int .i64 x.j.nb, .int .i64 x.j.nc, .int .i64 x.j.la, .int .i64 x.j.lb, .int .i64 x.j.lc, .int .i64 x.j.wl, .int .i64 x.j.lv, .int .i64 x.n, .int .i64 x.a, .int .i64 x.b, .int .i64 x.c] 28) = u1 at HX HB ⊢
    generalize w1.heap.size = q at HX ⊢
    refine wpList_load_mid rfl 28 _ rfl q 0 rfl [.int .i64 x.s, .int .i64 x.j.id, .int .i64 x.j.pr, .int .i64 x.j.nd, .int .i64 x.j.na, .int .i64 x.j.nb, .int .i64 x.j.nc, .int .i64 x.j.la, .int .i64 x.j.lb, .int .i64 x.j.lc, .int .i64 x.j.wl, .int .i64 x.j.lv, .int .i64 x.n, .int .i64 x.a, .int .i64 x.b, .int .i64 x.c] _ HX.out.all Tryd.underlying28 rfl szCmdC ?_
    go_wp2_with fail
    refine (implCmdText_c x.s x.j x.n x.a x.b x.c _ (HE.out.on HB.out).1 (HK.out.on HB.out)).mono ?_
    rintro e w2 ⟨rfl, hb⟩
    replace HX : Hid (Row w2 q [.int .i64 x.s, .int .i64 x.j.id, .int .i64 x.j.pr, .int .i64 x.j.nd, .int .i64 x.j.na, .int .i64 x.j.nb, .int .i64 x.j.nc, .int .i64 x.j.la, .int .i64 x.j.lb, .int .i64 x.j.lc, .int .i64 x.j.wl, .int .i64 x.j.lv, .int .i64 x.n, .int .i64 x.a, .int .i64 x.b, .int .i64 x.c]) := HX.out.below hb
    replace HB : Hid (Below w.heap.size w w2) := below_then HB.out hb
    clear hb
    have HCO : Hid (∀ W : World, Calls Tryd.prog 8 #[.agg #[.int .i64 x.s, .int .i64 x.j.id, .int .i64 x.j.pr, .int .i64 x.j.nd, .int .i64 x.j.na, .int .i64 x.j.nb, .int .i64 x.j.nc, .int .i64 x.j.la, .int .i64 x.j.lb, .int .i64 x.j.lc, .int .i64 x.j.wl, .int .i64 x.j.lv, .int .i64 x.n, .int .i64 x.a, .int .i64 x.b, .int .i64 x.c]] W fun e w' => e = .returned (.bool (cmdB x.s x.j x.n x.a x.b x.c)) ∧ Below W.heap.size W w') := fun W => specCmdOk_c x.s x.j x.n x.a x.b x.c W
    cases hB : cmdB x.s x.j x.n x.a x.b x.c
    · rw [hB] at HCO
      have e0 : ctL x.s x.j x.n x.a x.b x.c = [] := by rw [ctL, hB]; rfl
      rw [e0]
      have HT : Hid (∀ W : World, KwT W → Env W → Calls Tryd.prog 9 #[.string ⟨#[]⟩] W fun e w' => e = .returned (.tuple #[.agg #[.int .i64 0, .int .i64 0, .int .i64 0, .int .i64 0, .int .i64 0, .int .i64 0, .int .i64 0, .int .i64 0, .int .i64 0, .int .i64 0, .int .i64 0, .int .i64 0, .int .i64 0, .int .i64 0, .int .i64 0, .int .i64 0], .bool false]) ∧ Below W.heap.size W w') := fun W hk he => by
        have := implTextCmd_c ⟨#[]⟩ (by simp [ByteArray.size]) W hk he
        rw [show (⟨#[]⟩ : ByteArray).data.toList = [] from rfl, tcR_nil] at this
        exact this
      clear e0 hB
      have hi : (⟨([] : List UInt8).toArray⟩ : ByteArray).toList.isEmpty = true := by rw [ba_toL]; rfl
      go_wp2_with (refine stay_load 28 ?_)
      refine ⟨?_⟩
      refine wpList_load_mid rfl 28 _ rfl q 0 rfl [.int .i64 x.s, .int .i64 x.j.id, .int .i64 x.j.pr, .int .i64 x.j.nd, .int .i64 x.j.na, .int .i64 x.j.nb, .int .i64 x.j.nc, .int .i64 x.j.la, .int .i64 x.j.lb, .int .i64 x.j.lc, .int .i64 x.j.wl, .int .i64 x.j.lv, .int .i64 x.n, .int .i64 x.a, .int .i64 x.b, .int .i64 x.c] _ HX.out.all Tryd.underlying28 rfl szCmdC ?_
      go_wp2_with fail
      refine (HCO.out _).mono ?_
      rintro e w3 ⟨rfl, hb⟩
      replace HX : Hid (Row w3 q [.int .i64 x.s, .int .i64 x.j.id, .int .i64 x.j.pr, .int .i64 x.j.nd, .int .i64 x.j.na, .int .i64 x.j.nb, .int .i64 x.j.nc, .int .i64 x.j.la, .int .i64 x.j.lb, .int .i64 x.j.lc, .int .i64 x.j.wl, .int .i64 x.j.lv, .int .i64 x.n, .int .i64 x.a, .int .i64 x.b, .int .i64 x.c]) := HX.out.below hb
      replace HB : Hid (Below w.heap.size w w3) := below_then HB.out hb
      clear hb HCO
      go_wp2_with fail
      refine (HT.out _ (HK.out.on HB.out) (HE.out.on HB.out)).mono ?_
      rintro e w4 ⟨rfl, hb⟩
      replace HB : Hid (Below w.heap.size w w4) := below_then HB.out hb
      clear hb HX HT
      go_wp2_with fail
      go_ret
      exact ⟨rfl, behind_alloc HB.out _⟩
    · rw [hB] at HCO
      have hag := tc_again x.s x.j x.n x.a x.b x.c hB
      have hne := ctL_ne' x hB
      have hlen := ctL_len x.s x.j x.n x.a x.b x.c
      clear hB
      generalize ctL x.s x.j x.n x.a x.b x.c = l at hag hne hlen ⊢
      generalize hS : (⟨l.toArray⟩ : ByteArray) = S
      have HT : Hid (∀ W : World, KwT W → Env W → Calls Tryd.prog 9 #[.string S] W fun e w' => e = .returned (.tuple #[.agg #[.int .i64 x.s, .int .i64 x.j.id, .int .i64 x.j.pr, .int .i64 x.j.nd, .int .i64 x.j.na, .int .i64 x.j.nb, .int .i64 x.j.nc, .int .i64 x.j.la, .int .i64 x.j.lb, .int .i64 x.j.lc, .int .i64 x.j.wl, .int .i64 x.j.lv, .int .i64 x.n, .int .i64 x.a, .int .i64 x.b, .int .i64 x.c], .bool true]) ∧ Below W.heap.size W w') := fun W hk he => by
        have := implTextCmd_c S (by subst hS; simp [ByteArray.size]; omega) W hk he
        rw [show S.data.toList = l by subst hS; simp, hag] at this
        exact this
      have hi : S.toList.isEmpty = false := by subst hS; rw [ba_toL]; cases l with
        | nil => exact absurd rfl hne
        | cons _ _ => rfl
      clear hS hag hne hlen
      go_wp2_with (refine stay_load 28 ?_)
      refine ⟨?_⟩
      refine wpList_load_mid rfl 28 _ rfl q 0 rfl [.int .i64 x.s, .int .i64 x.j.id, .int .i64 x.j.pr, .int .i64 x.j.nd, .int .i64 x.j.na, .int .i64 x.j.nb, .int .i64 x.j.nc, .int .i64 x.j.la, .int .i64 x.j.lb, .int .i64 x.j.lc, .int .i64 x.j.wl, .int .i64 x.j.lv, .int .i64 x.n, .int .i64 x.a, .int .i64 x.b, .int .i64 x.c] _ HX.out.all Tryd.underlying28 rfl szCmdC ?_
      go_wp2_with fail
      refine (HCO.out _).mono ?_
      rintro e w3 ⟨rfl, hb⟩
      replace HX : Hid (Row w3 q [.int .i64 x.s, .int .i64 x.j.id, .int .i64 x.j.pr, .int .i64 x.j.nd, .int .i64 x.j.na, .int .i64 x.j.nb, .int .i64 x.j.nc, .int .i64 x.j.la, .int .i64 x.j.lb, .int .i64 x.j.lc, .int .i64 x.j.wl, .int .i64 x.j.lv, .int .i64 x.n, .int .i64 x.a, .int .i64 x.b, .int .i64 x.c]) := HX.out.below hb
      replace HB : Hid (Below w.heap.size w w3) := below_then HB.out hb
      clear hb HCO
      go_wp2_with fail
      refine (HT.out _ (HK.out.on HB.out) (HE.out.on HB.out)).mono ?_
      rintro e w4 ⟨rfl, hb⟩
      replace HX : Hid (Row (w4.alloc (.cells #[.int .i64 x.s, .int .i64 x.j.id, .int .i64 x.j.pr, .int .i64 x.j.nd, .int .i64 x.j.na, .int .i64 x.j.nb, .int .i64 x.j.nc, .int .i64 x.j.la, .int .i64 x.j.lb, .int .i64 x.j.lc, .int .i64 x.j.wl, .int .i64 x.j.lv, .int .i64 x.n, .int .i64 x.a, .int .i64 x.b, .int .i64 x.c] 28)) q [.int .i64 x.s, .int .i64 x.j.id, .int .i64 x.j.pr, .int .i64 x.j.nd, .int .i64 x.j.na, .int .i64 x.j.nb, .int .i64 x.j.nc, .int .i64 x.j.la, .int .i64 x.j.lb, .int .i64 x.j.lc, .int .i64 x.j.wl, .int .i64 x.j.lv, .int .i64 x.n, .int .i64 x.a, .int .i64 x.b, .int .i64 x.c]) := (HX.out.below hb).below (low_alloc _ _)
      have HD : Hid (Row (w4.alloc (.cells #[.int .i64 x.s, .int .i64 x.j.id, .int .i64 x.j.pr, .int .i64 x.j.nd, .int .i64 x.j.na, .int .i64 x.j.nb, .int .i64 x.j.nc, .int .i64 x.j.la, .int .i64 x.j.lb, .int .i64 x.j.lc, .int .i64 x.j.wl, .int .i64 x.j.lv, .int .i64 x.n, .int .i64 x.a, .int .i64 x.b, .int .i64 x.c] 28)) w4.heap.size [.int .i64 x.s, .int .i64 x.j.id, .int .i64 x.j.pr, .int .i64 x.j.nd, .int .i64 x.j.na, .int .i64 x.j.nb, .int .i64 x.j.nc, .int .i64 x.j.la, .int .i64 x.j.lb, .int .i64 x.j.lc, .int .i64 x.j.wl, .int .i64 x.j.lv, .int .i64 x.n, .int .i64 x.a, .int .i64 x.b, .int .i64 x.c]) := row_new w4 [.int .i64 x.s, .int .i64 x.j.id, .int .i64 x.j.pr, .int .i64 x.j.nd, .int .i64 x.j.na, .int .i64 x.j.nb, .int .i64 x.j.nc, .int .i64 x.j.la, .int .i64 x.j.lb, .int .i64 x.j.lc, .int .i64 x.j.wl, .int .i64 x.j.lv, .int .i64 x.n, .int .i64 x.a, .int .i64 x.b, .int .i64 x.c] 28
      replace HB : Hid (Below w.heap.size w (w4.alloc (.cells #[.int .i64 x.s, .int .i64 x.j.id, .int .i64 x.j.pr, .int .i64 x.j.nd, .int .i64 x.j.na, .int .i64 x.j.nb, .int .i64 x.j.nc, .int .i64 x.j.la, .int .i64 x.j.lb, .int .i64 x.j.lc, .int .i64 x.j.wl, .int .i64 x.j.lv, .int .i64 x.n, .int .i64 x.a, .int .i64 x.b, .int .i64 x.c] 28))) := behind_alloc (below_then HB.out hb) _
      clear hb HT
      have heq := ceq_self x
      go_wp2_with (refine stay_load 28 ?_)
      refine ⟨?_⟩
      generalize w4.alloc (.cells #[.int .i64 x.s, .int .i64 x.j.id, .int .i64 x.j.pr, .int .i64 x.j.nd, .int .i64 x.j.na, .int .i64 x.j.nb, .int .i64 x.j.nc, .int .i64 x.j.la, .int .i64 x.j.lb, .int .i64 x.j.lc, .int .i64 x.j.wl, .int .i64 x.j.lv, .int .i64 x.n, .int .i64 x.a, .int .i64 x.b, .int .i64 x.c] 28) = u4 at HX HD HB ⊢
      generalize w4.heap.size = q4 at HD ⊢
      have c0 := HX.out.cell 0 _ rfl
      have d0 := HD.out.cell 0 _ rfl
      have c1 := HX.out.cell 1 _ rfl
      have d1 := HD.out.cell 1 _ rfl
      have c2 := HX.out.cell 2 _ rfl
      have d2 := HD.out.cell 2 _ rfl
      have c3 := HX.out.cell 3 _ rfl
      have d3 := HD.out.cell 3 _ rfl
      have c4 := HX.out.cell 4 _ rfl
      have d4 := HD.out.cell 4 _ rfl
      have c5 := HX.out.cell 5 _ rfl
      have d5 := HD.out.cell 5 _ rfl
      have c6 := HX.out.cell 6 _ rfl
      have d6 := HD.out.cell 6 _ rfl
      have c7 := HX.out.cell 7 _ rfl
      have d7 := HD.out.cell 7 _ rfl
      have c8 := HX.out.cell 8 _ rfl
      have d8 := HD.out.cell 8 _ rfl
      have c9 := HX.out.cell 9 _ rfl
      have d9 := HD.out.cell 9 _ rfl
      have c10 := HX.out.cell 10 _ rfl
      have d10 := HD.out.cell 10 _ rfl
      have c11 := HX.out.cell 11 _ rfl
      have d11 := HD.out.cell 11 _ rfl
      have c12 := HX.out.cell 12 _ rfl
      have d12 := HD.out.cell 12 _ rfl
      have c13 := HX.out.cell 13 _ rfl
      have d13 := HD.out.cell 13 _ rfl
      have c14 := HX.out.cell 14 _ rfl
      have d14 := HD.out.cell 14 _ rfl
      have c15 := HX.out.cell 15 _ rfl
      have d15 := HD.out.cell 15 _ rfl
      clear HX HD
      go_wp2_with fail
      go_ret
      exact ⟨rfl, HB.out⟩
end Go.Proofs.YtejleghdgdbbnaaDoor

namespace Go.Proofs.YtejleghdgdbbnaaDoor
open Go.ChangeShapes Go.WideShapes Go.ChangeAt Go.RowKit

/-- An array of texts that reads as the list holds these texts, cell for cell. -/
theorem cells_of_texts {H : Type} {enc : TypeId × Value → H} {P : Program} {w : World} {base : Nat} {sp : Nat → Bool} {held : Bool} {fuel : Nat} {t e : TypeId} {n : Nat} {cs : List Value} {ws : List (List UInt8)} {p : List MemPlace}
    (ht : P.underlying t = some (.array n e)) (he : P.underlying e = some .string) (hce : P.cellsOf e = 1) (hct : P.cellsOf t = n)
    (h : DataW.trod enc P w base sp held fuel t cs = some (.agg (ws.map fun l => .lit (.string l)), p)) : cs = strs ws := by
  obtain ⟨xs, m, _, hx, hl, hxl, hf⟩ := DataW.trod_array ht h
  simp only [Prod.mk.injEq, DataW.agg.injEq] at hx
  have hxs := hx.1
  rw [hct] at hl
  have hwl : ws.length = n := by
    have := congrArg List.length hxs
    simp at this
    omega
  apply List.ext_getElem?
  intro i
  by_cases hi : i < n
  · have hfi := hf i hi
    rw [hce] at hfi
    have hxi : xs[i]? = some xs[i] := List.getElem?_eq_getElem (by omega)
    rw [hxi] at hfi
    obtain ⟨s, hc, hx2, _⟩ := DataW.trod_string he hfi
    have h1 : cs[i]? = some (.string s) := by
      have := congrArg (·[0]?) hc
      simpa [List.getElem?_take, List.getElem?_drop] using this
    have h2 := congrArg (·[i]?) hxs
    simp only [List.getElem?_map, hxi, Option.map_some, hx2] at h2
    rw [h1, strs_get]
    cases hw : ws[i]? with
    | none => rw [hw] at h2; cases h2
    | some l =>
      rw [hw] at h2
      simp at h2
      rw [Option.map_some, h2]
  · rw [List.getElem?_eq_none (by omega), List.getElem?_eq_none (by rw [strs_length]; omega)]

theorem gKwType : (Tryd.prog.globals[1]?).map (·.type) = some 100 := by kernel_rfl
theorem cellsKw : Tryd.prog.cellsOf 100 = 8 := by kernel_rfl
theorem cellsStrK : Tryd.prog.cellsOf 9 = 1 := by kernel_rfl
theorem kwV_strs : strs kws = kwV := rfl

theorem kw_head {W : World} {r : List (String × DataW Unit)} (h : laidMet Tryd.prog (("loop.example/g00454/impl.kindWords", Rows.laid_loop_example_g00454_impl_kindWords) :: r) W) : KwT W := by
  have h2 : laidMet Tryd.prog (("loop.example/g00454/impl.kindWords", .agg (kws.map fun l => .lit (.string l))) :: r) W := h
  obtain ⟨ps, ⟨g', t', cs, fuel, p, q, hg', ht', hvar, hd, _, _⟩, _⟩ := h2
  obtain rfl := Option.some.inj (gKw.symm.trans hg')
  obtain rfl := Option.some.inj (gKwType.symm.trans ht')
  have hcs := cells_of_texts Tryd.underlying100 Tryd.underlying9 cellsStrK cellsKw hd
  have hcs2 : cs = kwV.toArray := by rw [← kwV_strs, ← hcs]
  subst hcs2
  refine ⟨hvar, ?_⟩
  have := World.var?_cell gKw hvar 0
  exact World.block_lt_of_cell? W _ (by rw [this]; rfl)
end Go.Proofs.YtejleghdgdbbnaaDoor

namespace Go.Proofs.YtejleghdgdbbnaaDoor
open Go.ChangeShapes Go.WideShapes Go.ChangeAt Go.RowKit

theorem laidOutAll : laidOutB Tryd.prog = true := by kernel_rfl
theorem cellsByte : Tryd.prog.cellsOf 5 = 1 := by kernel_rfl

theorem byte_in {x : Int} (h : (Lit.int .u8 x).wf = true) : 0 ≤ x ∧ x < 256 := by
  have h1 : IntKind.u8.min = 0 := rfl
  have h2 : IntKind.u8.max = 255 := rfl
  simp only [Lit.wf, Bool.and_eq_true, decide_eq_true_eq] at h
  omega

/-- A code that came in: its length, and its bytes where it is no longer than the laws look at. -/
theorem code_opened {H : Type} {enc : TypeId × Value → H} {W : World} {a : Option Addr} {n cap : Nat} {d : DataW H} {p : List MemPlace}
    (h : DataW.Trod enc Tryd.prog W 0 (fun _ => true) true 22 (.slice a n cap) d p) : n ≤ maxLen ∧ (n ≤ 1048576 → CodeIs W a n) := by
  obtain ⟨fuel, hf⟩ := h
  rcases open_ints Tryd.underlying22 Tryd.underlying5 cellsByte hf with ⟨hcs, _⟩ | ⟨b, len, c, zs, hcs, _, hl, hm, hz, _, hcell, hwz⟩
  · simp [Value.cells] at hcs
    obtain ⟨rfl, rfl, rfl⟩ := hcs
    exact ⟨Nat.zero_le _, fun _ => ⟨by omega, fun i hi => by omega⟩⟩
  · simp [Value.cells] at hcs
    obtain ⟨rfl, rfl, rfl⟩ := hcs
    simp only [if_true] at hz
    refine ⟨by omega, fun hn => ⟨hn, fun i hi => ?_⟩⟩
    have hi' : i < zs.length := by omega
    have hc := hcell i hi'
    have hg : zs.getD i 0 = zs[i] := by simp [List.getD, hi']
    have hw := byte_in (hwz zs[i] (List.getElem_mem hi'))
    refine ⟨b, zs[i], rfl, ?_, by rw [hc, hg], hw.1, hw.2⟩
    have := World.block_lt_of_cell? _ _ hc
    rwa [block_add] at this
end Go.Proofs.YtejleghdgdbbnaaDoor

namespace Go.Proofs.YtejleghdgdbbnaaDoor
open Go.ChangeShapes Go.WideShapes Go.ChangeAt Go.RowKit

theorem own : ownKnob Tryd.prog.godebug = none := by kernel_rfl
theorem gTabType : (Tryd.prog.globals[5]?).map (·.type) = some 170 := by kernel_rfl
theorem cellsTab : Tryd.prog.cellsOf 170 = 20 := by kernel_rfl
theorem cellsElem : Tryd.prog.cellsOf 154 = 1 := by kernel_rfl
theorem gErrSType : (Tryd.prog.globals[3]?).map (·.type) = some 96 := by kernel_rfl
theorem gErrRType : (Tryd.prog.globals[4]?).map (·.type) = some 96 := by kernel_rfl
theorem cellsErr : Tryd.prog.cellsOf 177 = 1 := by kernel_rfl
theorem cellsStr : Tryd.prog.cellsOf 9 = 1 := by kernel_rfl
theorem star : "*" ++ "errors.errorString" = "*errors.errorString" := by decide
theorem rowErr (u : TypeId) (h : Tryd.prog.typeName? 3 u = some "*errors.errorString") : u = 175 :=
  typeName_ptr_named (nm := "errors.errorString") (by rw [star]; kernel_rfl) (by kernel_rfl) (by decide) u (by rw [star]; exact h)

theorem tab_head {W : World} {r : List (String × DataW Unit)} (h : laidMet Tryd.prog (("internal/strconv.uint64pow10", Rows.laid_internal_strconv_uint64pow10) :: r) W) : Tab W := by
  have h2 : laidMet Tryd.prog (("internal/strconv.uint64pow10", Lib.tabData .u64 Lib.pow10Tab) :: r) W := h
  have hT := Lib.tabIs_of_head gTab gTabType Tryd.underlying170 Tryd.underlying154 cellsElem cellsTab h2
  exact ⟨hT, World.block_lt_of_cell? W _ (hT.cell gTab 0 (by decide))⟩

theorem errs_head {W : World} {r r' : List (String × DataW Unit)} (hR : laidMet Tryd.prog (("strconv.ErrRange", Rows.laid_strconv_ErrRange) :: r) W) (hS : laidMet Tryd.prog (("strconv.ErrSyntax", Rows.laid_strconv_ErrSyntax) :: r') W) : Errs W := by
  obtain ⟨a0, s0, hv0, -, -, -⟩ := laid_sentinel hS gErrS gErrSType Tryd.underlying96 rowErr Tryd.underlying175 Tryd.underlying177 rfl rfl Tryd.underlying9 cellsErr cellsStr
  obtain ⟨a1, s1, hv1, -, -, -⟩ := laid_sentinel hR gErrR gErrRType Tryd.underlying96 rowErr Tryd.underlying175 Tryd.underlying177 rfl rfl Tryd.underlying9 cellsErr cellsStr
  have c0 := World.var?_cell gErrS hv0 0
  have c1 := World.var?_cell gErrR hv1 0
  exact ⟨⟨_, _, hv0⟩, ⟨_, _, hv1⟩, World.block_lt_of_cell? W _ (by simpa using c0), World.block_lt_of_cell? W _ (by simpa using c1)⟩
end Go.Proofs.YtejleghdgdbbnaaDoor

namespace Go.Proofs.YtejleghdgdbbnaaDoor
namespace LawFnCmd
open Go.ChangeShapes Go.WideShapes Go.ChangeAt Go.RowKit
open Go.WideMaps Go.WideElems

set_option maxRecDepth 100000 in
theorem lifted (os : Os) (started : os.Started) (H : Type) (enc : TypeId × Value → H) :
    ReturnsInHanded {} Tryd.checked os 3 .any (fun w args => (Rows.fnCmdSpec.pre enc Tryd.prog Tryd.f3 [] false w args ∧ laidMetH Tryd.prog Rows.fnCmdRow.laid w) ∧ sizedMet enc Tryd.prog Tryd.f3 (OpenSpec.ofChange Rows.fnCmdSpec) false w args)
      (Rows.fnCmdSpec.post enc Tryd.prog Tryd.f3 false true false false) := by
  refine handed (laid := Rows.fnCmdRow.laid) started (by kernel_rfl) Tryd.func3
    (ChangeSpec.witness_shaped (enc := enc) (C := Tryd.checked) (os := os) (X := fun w _ => laidMetH Tryd.prog Rows.fnCmdRow.laid w) false (World.laidAll Tryd.prog os Rows.fnCmdRow.laid) #[.slice none 0 0] 8 (World.laidAll_os _ _ _)
      (World.shaped_of_ZipB (by kernel_rfl) (by kernel_rfl)) (by kernel_rfl) (by kernel_rfl) (by kernel_rfl)
      (by rw [MakeChecks.laidMetH_plain _ _ _ (by kernel_rfl)]; exact laidMet_laidAll _ (by kernel_rfl) (by kernel_rfl))) ?_
  intro W base args ds gs before hval0 hW hL hsh
  have hval : ∀ (j : Nat) t v, Tryd.f3.params[j]? = some t → args[j]? = some v → Value.okWide Tryd.prog W .any base t v := hval0
  have hW' := hW
  obtain ⟨p, q, hA0, hV, rfl, hfz, hnd⟩ := hW
  have hA : DataW.TrodAll enc Tryd.prog W 0 (fun _ => true) true Tryd.f3.params.toList args.toList ds p := hA0
  rw [Tryd.params3] at hA hval
  obtain ⟨v0, d0, rfl, rfl, h0⟩ := trodAll_one hA
  have hV0 := hV
  obtain ⟨g1, t1, cs1, fuel1, d1, p1, rfl, _, _, _, _, _⟩ := trodVars_one hV
  obtain ⟨a, n, cap, rfl⟩ := okWide_slice Tryd.underlying22 (hval 0 22 v0 rfl rfl)
  clear hA0 hval0
  obtain ⟨hn, hc⟩ := code_opened h0
  have hM := hL
  rw [MakeChecks.laidMetH_plain _ _ _ (by kernel_rfl)] at hM
  refine (fnCmd_walk a n cap W hn hc (kw_head hM.tail.tail.tail.tail.tail.tail) ⟨tab_head hM.tail.tail, errs_head hM.tail.tail.tail.tail hM.tail.tail.tail.tail.tail, Tryd.laysM146.s1_3 W hsh⟩).mono fun e W' ⟨he, hg⟩ => ?_
  subst he
  have hlt : ∀ x ∈ p, x.block < W.heap.size := fun x hx => by simpa using hW'.lt x (List.mem_append_left _ hx)
  have harg := Below.trod laidOutAll (by kernel_rfl) (of_decide_eq_true (by kernel_rfl)) h0 hg hlt
  have hvars := Below.trodVars laidOutAll hg (by kernel_rfl) hV0
  exact ⟨_, rfl, _, _, _, [], _, _, hW', trodAll_mk1 (shut_bool Tryd.underlying4 _), trodAll_mk1 harg, hvars, hg.frame _, fun h => by cases h⟩
end LawFnCmd

theorem fnCmd_row : Rows.FnCmdSaid :=
  OpenClaim.holds_of_wide 3 Tryd.f3 rfl rfl rfl rfl rfl rfl rfl ⟨rfl, rfl, rfl, rfl, rfl⟩ rfl rfl rfl rfl rfl (by kernel_rfl) Tryd.func3 (by kernel_rfl)
    (of_decide_eq_true (by kernel_rfl)) (by unfold Func.isWrapper; rw [if_neg (of_decide_eq_false (by kernel_rfl))]; exact ⟨rfl, rfl⟩)
    (fun os started H enc _ => LawFnCmd.lifted os started H enc)

/-- For every code: the law returns true; what it lists is tied to the program's text. -/
theorem fnCmd_holds : Rows.FnCmdCardSaid :=
  Claim7.holds_tied_plain_at .later [] _ true _ _
    fnCmd_row (fun _ h => by cases h) (by kernel_rfl) (fun _ h => by cases h) fnCmd_row_tie rfl ⟨rfl, rfl⟩ (by kernel_rfl) rfl
    (fun f fn hf hfn => by
      obtain rfl : f = 3 := Option.some.inj ((show Tryd.prog.funcNamed Rows.fnCmdRow.func = some 3 by kernel_rfl).symm.trans hf) |>.symm
      obtain rfl : fn = Tryd.f3 := (Option.some.inj (Tryd.func3.symm.trans hfn)).symm
      exact ⟨by kernel_rfl, fun j t ht => by
        rw [Tryd.params3] at ht
        have hm : t ∈ [22] := by simpa using Array.mem_of_getElem? ht
        have hall : ([22].all fun u => !Tryd.prog.wantsStandIn u) = true := by kernel_rfl
        exact (show Tryd.prog.wantsStandIn t = false by simpa using List.all_eq_true.1 hall t hm)⟩)
    (by kernel_rfl)
#print axioms fnCmd_holds
end Go.Proofs.YtejleghdgdbbnaaDoor
