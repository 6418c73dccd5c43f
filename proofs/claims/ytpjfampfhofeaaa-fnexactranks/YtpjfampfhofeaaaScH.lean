/- What slices.Values hands over of a list of accounts: collected. -/
import Derived.Test.YtpjfampfhofeaaaSjL
import Derived.Test.YtpjfampfhofeaaaShC
import Derived.RangeFuncBox
import Derived.RangeFuncNested
import Derived.RangeFuncCalls
import Derived.Shelf.RegionOpen
import Derived.Maps.AppendAt
import Derived.RangeFuncBound
import Derived.RangeFuncLeaves
import Derived.Shelf.Abstract
import Derived.WalkKit
import Derived.OwnWalkIn
import Derived.TacticsInMore
import Derived.LoopNIn
import Derived.LoopIn
namespace Go.Proofs.Ytpjfampfhofeaaa
open Go.ChangeShapes Go.WideShapes Go.ChangeAt Go.RowKit Go.Shelf
attribute [local go_sem] Oper.semAt_some

/-- What the walk over them reads. -/
structure VaM (a : Option Addr) (c : Nat) (l : List Ac) (Bp : Nat) (W : World) : Prop where
  box : W.cell? ⟨Bp, 0, none⟩ = some (.slice a l.length c)
  all : Sq W a (flatAc l)
theorem vaM_t {a : Option Addr} {c : Nat} {l : List Ac} {Bp : Nat} {A B C : World} (h : VaM a c l Bp A → VaM a c l Bp B) (k : VaM a c l Bp B → VaM a c l Bp C) : VaM a c l Bp A → VaM a c l Bp C := fun x => k (h x)
theorem vaM_b {a : Option Addr} {c : Nat} {ps : List Ac} {Bp : Nat} (W : World) (l : Nat) (o o' : Obj) (h : W.heap[l]? = some o) (ho : o.isCells = false) : VaM a c ps Bp W → VaM a c ps Bp (W.putObj l o') := fun m => by
  have hk : ∀ {p : Addr} {v : Value}, W.cell? p = some v → (W.putObj l o').cell? p = some v := fun hc => cell_kept hc (grownBy_putObj' W l o') (fun r e => by cases e; exact ⟨o, h, ho⟩)
  refine ⟨hk m.box, ⟨fun i x hx => ?_⟩⟩
  obtain ⟨p, hp, hlt, hc⟩ := m.all.cell i x hx
  have hc' := hk hc
  exact ⟨p, hp, by have := World.block_lt_of_cell? _ _ hc'; rwa [block_add] at this, hc'⟩
theorem vaM_keep {a : Option Addr} {c : Nat} {ps : List Ac} {Bp n₀ : Nat} {w W W' : World} (hM : VaM a c ps Bp w) (hn : w.heap.size ≤ n₀) (hb : Below n₀ W W') : VaM a c ps Bp W → VaM a c ps Bp W' := fun m => by
  have h1 := World.block_lt_of_cell? _ _ hM.box
  refine ⟨(hb.cell (p := ⟨Bp, 0, none⟩) (Nat.lt_of_lt_of_le h1 hn)).trans m.box, ⟨fun i x hx => ?_⟩⟩
  obtain ⟨p, hp, hlt, hc⟩ := m.all.cell i x hx
  obtain ⟨p', hp', hlt', _⟩ := hM.all.cell i x hx
  rw [hp] at hp'
  cases hp'
  exact ⟨p, hp, Nat.lt_of_lt_of_le hlt hb.size, (hb.cell (p := p.add i) (by rw [block_add]; omega)).trans hc⟩

theorem valuesAc_c (a : Option Addr) (n c : Nat) (w : World) :
    Calls Try.prog 40 #[.slice a n c] w fun e w' => e = .returned (.func (.func 63) #[] #[.pointer (some ⟨w.heap.size, 0, none⟩)]) ∧ w' = w.alloc (.cells #[.slice a n c] 23) := by
  go_enter Try.func40, Try.ntmps40
  go_wp2_with fail
  go_ret
  exact ⟨rfl, rfl⟩
def enA (x : Ac) : Array Value := #[.agg #[.string x.nm, .int .i64 x.sh, .int .i64 x.us]]
set_option maxRecDepth 100000 in
set_option maxHeartbeats 2000000 in
theorem valsAc_in (F : Fence) (n : Nat) (hf : F.fn 63) (hro : F.round = none) (hn : 1 ≤ n) (l B : Nat) (a : Option Addr) (c : Nat) (xs : List Ac) (hlen : xs.length ≤ 4294967296) (J Jx : List Ac → World → Prop)
    (hJ : ∀ s W o, J s W → J s (W.alloc o))
    (hY : ∀ pre x W, J pre W → pre.length < xs.length → YieldAt F (n - 1) Try.prog l (enA x) W fun e W' =>
      (e = .returned (.bool true) ∧ J (pre ++ [x]) W' ∧ (VaM a c xs B W → VaM a c xs B W')) ∨ (e = .returned (.bool false) ∧ Jx (pre ++ [x]) W'))
    (W : World) (hM : VaM a c xs B W) (h0 : J [] W) :
    CallsIn F n Try.prog 63 #[.func (.yield l) #[] #[], .pointer (some ⟨B, 0, none⟩)] W fun e W' => (∃ v, e = .returned v) ∧
      ((∃ ys, ys = xs ∧ J ys W') ∨ (∃ pre, pre <+: xs ∧ Jx pre W')) := by
  have hbx0 := hM.box
  refine callsIn_of_wp Try.func63 rfl hf ?_ hro
  simp only [Try.ntmps63, List.size_toArray, List.length_cons, List.length_nil, Nat.reduceAdd, Nat.reduceSub, Array.replicate_succ, Array.replicate_zero, List.push_toArray, List.append_toArray, List.nil_append, List.cons_append]
  gi_wp2
  clear hbx0
  gi_loopw [7] (fun i wr => ∃ k : Nat, k ≤ xs.length ∧ i = .int .i64 k ∧ J (xs.take k) wr ∧ VaM a c xs B wr)
    (fun i _ => xs.length - (intOf i).toNat)
  case atStart => exact ⟨0, Nat.zero_le _, rfl, h0, hM⟩
  case round =>
    obtain ⟨k, hk, rfl, hJs, hm⟩ := hrel
    by_cases hlt : k < xs.length
    · obtain ⟨q, rfl⟩ := hm.all.some_ofAc k hlt
      have HX : Hid (xs[k]? = some xs[k]) := List.getElem?_eq_getElem hlt
      have htk : xs.take (k + 1) = xs.take k ++ [xs[k]] := by rw [List.take_add_one, List.getElem?_eq_getElem hlt]; rfl
      generalize xs[k] = x at HX htk
      have c0 := hm.all.account0 HX.out
      have c1 := hm.all.accountK HX.out 1 (by decide) _ rfl
      have c2 := hm.all.accountK HX.out 2 (by decide) _ rfl
      obtain ⟨fn, tmps, assign, body, hy, hR⟩ := hY _ x (wr.alloc (.cells #[.string x.nm, .int .i64 x.sh, .int .i64 x.us] 30)) (hJ _ _ _ hJs) (by simp; omega)
      simp only [enA] at hy hR
      have hx0 : (0 : Int) ≤ (k : Int) := by omega
      have hx1 : (k : Int) < (xs.length : Int) := by omega
      have Hm : Hid (VaM (some q) c xs B (wr.alloc (.cells #[.string x.nm, .int .i64 x.sh, .int .i64 x.us] 30))) := vaM_keep hm (Nat.le_refl _) (low_alloc _ _) hm
      clear hm
      gi_wp2
      refine hR.mono ?_
      rintro e W3 (⟨rfl, hJ3, hk3⟩ | ⟨rfl, hJx3⟩)
      · have hm3 := hk3 Hm.out
        clear hy hR hk3 c0 c1 c2
        gi_wp2
        go_roundw
        case rel => exact ⟨k + 1, by omega, by simp, by rw [htk]; exact hJ3, hm3⟩
        case measure => simp [intOf]; omega
      · gi_wp2
        refine bodyPost_ret (results_none rfl _ _ _) rfl ?_
        exact ⟨⟨_, rfl⟩, .inr ⟨_, ⟨xs.drop (k + 1), by rw [← htk]; exact List.take_append_drop _ _⟩, hJx3⟩⟩
    · obtain rfl : k = xs.length := by omega
      rw [List.take_length] at hJs
      gi_wp2
      go_end0
      exact ⟨⟨_, rfl⟩, .inl ⟨_, rfl, hJs⟩⟩
theorem valsAc_stops (F : Fence) (n : Nat) (hf : F.fn 63) (hro : F.round = none) (hn : 1 ≤ n) (B : Nat) (a : Option Addr) (c : Nat) (xs : List Ac) (hlen : xs.length ≤ 4294967296) (w : World) (hM : VaM a c xs B w) :
    SeqStopsK F n Try.prog 63 #[.pointer (some ⟨B, 0, none⟩)] enA (fun W W' => VaM a c xs B W → VaM a c xs B W') (fun ys => ys = xs) (fun pre => pre <+: xs) xs.length w :=
  fun l J Jx W hW hJ _ hY h0 => valsAc_in F n hf hro hn l B a c xs hlen J Jx (fun s W' o hs => hJ s W' _ none hs (World.grownBy_alloc W' o none) (fun r e => by cases e)) hY W
    ⟨(hW.cell (p := ⟨B, 0, none⟩) (World.block_lt_of_cell? _ _ hM.box)).trans hM.box, hM.all.below hW⟩ h0

/-- An account in a box. -/
def Ce3 (W : World) (B : Nat) (x : Ac) : Prop := W.cell? ⟨B, 0, none⟩ = some (.string x.nm) ∧ W.cell? ⟨B, 1, none⟩ = some (.int .i64 x.sh) ∧ W.cell? ⟨B, 2, none⟩ = some (.int .i64 x.us)
theorem ce3_new (W : World) (x : Ac) : Ce3 (W.alloc (.cells #[.string x.nm, .int .i64 x.sh, .int .i64 x.us] 30)) W.heap.size x := by
  have h := row_fresh W [.string x.nm, .int .i64 x.sh, .int .i64 x.us] 30
  exact ⟨h.cell 0 _ rfl, h.cell 1 _ rfl, h.cell 2 _ rfl⟩
theorem ce3_own (x : Ac) (a' : Act) (B : Nat) (f : Nat → Act) : OwnFrom B (fun (_ : Unit) W => ∃ Bx, Ce3 W Bx x ∧ a' = f Bx) := by
  rintro _ X Y row ⟨Bx, h, e⟩ hg hr
  exact ⟨Bx, ⟨cell_kept h.1 hg (fun r e => (hr r e).2), cell_kept h.2.1 hg (fun r e => (hr r e).2), cell_kept h.2.2 hg (fun r e => (hr r e).2)⟩, e⟩
set_option maxRecDepth 100000 in
set_option maxHeartbeats 2000000 in
theorem appAc_in (F : Fence) (n : Nat) (h1 : F.fn 74) (h2 : F.fn 63) (hro : F.round = none) (hn : 3 ≤ n) (B : Nat) (a : Option Addr) (c : Nat) (xs : List Ac) (hul : xs.length ≤ 1048576) (w : World)
    (hM : VaM a c xs B w) :
    CallsIn F n Try.prog 74 #[.slice none 0 0, .func (.func 63) #[] #[.pointer (some ⟨B, 0, none⟩)]] w fun e W' =>
      ∃ v, e = .returned v ∧ W'.ownsRow w.heap.size 30 3 v xs.length (flatAc xs) ∧ Below w.heap.size w W' := by
  have hn1 : 1 ≤ n := by omega
  obtain ⟨i0, hi, hz0, hz1, hz2⟩ := info_parts infoAcc
  refine callsIn_of_wp_marks Try.func74 rfl h1 ?_ hro
  simp only [Try.ntmps74, List.size_toArray, List.length_cons, List.length_nil, Nat.reduceAdd, Nat.reduceSub, Array.replicate_succ, Array.replicate_zero, List.push_toArray, List.append_toArray, List.nil_append, List.cons_append]
  gi_wp2
  have bO := Boxed.new w 23 (.slice none 0 0)
  have hB0 : Below w.heap.size w (w.alloc (.cells #[.slice none 0 0] 23)) := low_alloc _ _
  refine wpIn_rangeFunc_ownH hro hn1 (gf := 63) (lb := #[.pointer (some ⟨B, 0, none⟩)]) rfl h2 (enters_of Try.func63 (by kernel_rfl) rfl)
    (valsAc_stops F (n - 1) h2 hro (by omega) B a c xs (by omega) _ (vaM_keep hM (Nat.le_refl _) hB0 hM)) vaM_t (fun W l o o' _ h ho _ => vaM_b W l o o' h ho) (Below.refl _ _) (fun _ => rfl)
    (fun pre W => (∃ v, Boxed W w.heap.size 23 v ∧ W.ownsRow w.heap.size 30 3 v pre.length (flatAc pre) ∧ True) ∧ Below w.heap.size w W)
    (fun _ _ _ => False)
    (OwnFrom.and (Own.from (holdsRow_own w.heap.size w.heap.size 23 30 3 (fun pre : List Ac => pre.length) (fun pre => flatAc pre) (fun _ _ => True)) _) (ownFrom_below (Nat.le_refl _) (by simp)))
    (fun _ _ _ _ _ hs _ _ => hs)
    ⟨⟨_, bO, World.ownsRow_nil _ _ _ _, trivial⟩, hB0⟩
    (fun x a' W => ∃ Bx, Ce3 W Bx x ∧ a' = { tmps := #[.slice none 0 0, .func (.func 63) #[] #[.pointer (some ⟨B, 0, none⟩)], .pointer (some ⟨w.heap.size, 0, none⟩), undef, .slice none 0 0, .pointer (some ⟨Bx, 0, none⟩), .func (.func 63) #[] #[.pointer (some ⟨B, 0, none⟩)], .agg #[.string x.nm, .int .i64 x.sh, .int .i64 x.us], undef, undef, undef, undef, undef], defers := [] })
    (fun x a' => ce3_own x a' _ _)
    ?assign ?body ?done ?stop
  case assign =>
    rintro l pre x W K ⟨⟨v, hv, hrow, _⟩, hB⟩ hK
    simp only [enA]
    gi_wp2
    exact hK _ _ ((KeepsOthers.alloc _ _).from _) (vaM_keep hM (Nat.le_refl _) ((Below.refl _ W).alloc hB.size _)) ⟨⟨v, hv.alloc _, hrow.alloc _, trivial⟩, hB.alloc hB.size _⟩ ⟨W.heap.size, ce3_new W x, rfl⟩
  case body =>
    rintro l pre x a' W _ _ ⟨⟨v, hv, hrow, _⟩, hB⟩ ⟨Bx, hce, rfl⟩ hlt
    have hc := hv.cell
    have e0 := hce.1
    have e1 := hce.2.1
    have e2 := hce.2.2
    have hbx := World.block_lt_of_cell? _ _ e0
    gi_wp2_with (gi_at_builtin; refine wpListIn_append_own _ rfl _ _ 23 rfl w.heap.size 30 i0 (.agg #[.string ⟨#[]⟩, .int .i64 0, .int .i64 0]) 3 32 Try.underlying23 hi hz0 hz1 hz2 rfl (by decide) _ _ _ rfl (hrow.alloc _) ⟨W.heap.size, 0, none⟩ 1 1 [.string x.nm, .int .i64 x.sh, .int .i64 x.us] rfl rfl (fun q u hu => by rw [add_plain, Nat.zero_add]; exact (row_fresh W [.string x.nm, .int .i64 x.sh, .int .i64 x.us] 30).cell q u hu) (by simp [Value.oneCell']) (by unfold maxLen; omega) (by omega) (by have := hB.size; simp; omega) ?_; intro v' w1 hown' hgrow _; obtain ⟨g', cap', rfl⟩ := ownsRow_succ hown'; obtain ⟨hv1, hv2, hr2, hk2, hb2⟩ := hv.appended (by decide) hrow hB.size (Nat.le_refl _) hown' hgrow; have hc1 := hv1.cell; have hf1 := hv1.frozen)
    exact ⟨hk2.from _, vaM_keep hM (Nat.le_refl _) hb2, ⟨_, hv2, by rw [flatAc_add, List.length_append]; exact hr2⟩, hB.trans hb2⟩
  case done =>
    rintro D ys W hD rfl ⟨⟨v, hv, hrow, _⟩, hB⟩ hK
    have hc := hv.cell
    gi_wp2
    refine ⟨by simp, .inl ⟨_, _, rfl, run_takeDeferred hK, ?_⟩⟩
    exact ⟨_, results_tmp rfl _ _ _, v, rfl, ownsRow_putObj hrow _ hK rfl, hB.trans (belowK_b (w := w) (Nat.le_refl _) W D _ _ (by simp at hD; omega) hK rfl rfl)⟩
  case stop =>
    rintro D c pre W _ _ h _
    exact h.elim
theorem collectAc_c (B : Nat) (a : Option Addr) (c : Nat) (xs : List Ac) (hul : xs.length ≤ 1048576) (w : World) (hM : VaM a c xs B w) :
    Calls Try.prog 61 #[.func (.func 63) #[] #[.pointer (some ⟨B, 0, none⟩)]] w fun e W' =>
      ∃ v, e = .returned v ∧ W'.ownsRow w.heap.size 30 3 v xs.length (flatAc xs) ∧ Below w.heap.size w W' := by
  have hA : Hid (Calls Try.prog 74 #[.slice none 0 0, .func (.func 63) #[] #[.pointer (some ⟨B, 0, none⟩)]] w fun e W' =>
      ∃ v, e = .returned v ∧ W'.ownsRow w.heap.size 30 3 v xs.length (flatAc xs) ∧ Below w.heap.size w W') := callsIn_wide.1 (appAc_in Fence.wide 3 trivial trivial rfl (Nat.le_refl _) B a c xs hul w hM)
  clear hM
  go_enter Try.func61, Try.ntmps61
  go_wp2_with fail
  refine hA.out.mono ?_
  rintro e w1 ⟨v, rfl, ho, hb⟩
  have HO : Hid (w1.ownsRow w.heap.size 30 3 v xs.length (flatAc xs)) := ho
  have HB : Hid (Below w.heap.size w w1) := hb
  clear ho hb
  go_wp2_with fail
  go_ret
  exact ⟨v, rfl, HO.out, HB.out⟩
end Go.Proofs.Ytpjfampfhofeaaa
