/- What a walk up gives, collected; 'Above' by the program and by the specification. -/
import Derived.Test.YtdmgcbagijiohaaGreatMzWayA
import Derived.Test.YtdmgcbagijiohaaGreatMgRe
import Derived.RangeFuncBox
import Derived.Maps.AppendAt
namespace Go.Proofs.YtdmgcbagijiohaaGreat
open Go.ChangeShapes Go.WideShapes Go.ChangeAt Go.RowKit Go.Shelf
attribute [local go_sem] Oper.semAt_some

theorem wayMem_keep {a : Option Addr} {c : Nat} {ps : List Int} {Bp n₀ : Nat} {w W W' : World} (hM : WayMem a c ps Bp w) (hn : w.heap.size ≤ n₀) (hb : Below n₀ W W') : WayMem a c ps Bp W → WayMem a c ps Bp W' := fun m => by
  have h1 := World.block_lt_of_cell? _ _ hM.box
  refine ⟨(hb.cell (p := ⟨Bp, 0, none⟩) (Nat.lt_of_lt_of_le h1 hn)).trans m.box, ⟨fun i x hx => ?_⟩⟩
  obtain ⟨p, hp, hlt, hc⟩ := m.all.cell i x hx
  obtain ⟨p', hp', hlt', _⟩ := hM.all.cell i x hx
  rw [hp] at hp'
  cases hp'
  exact ⟨p, hp, Nat.lt_of_lt_of_le hlt hb.size, (hb.cell (p := p.add i) (by rw [block_add]; omega)).trans hc⟩

set_option maxRecDepth 100000 in
set_option maxHeartbeats 2000000 in
theorem appendSeq_in (F : Fence) (n : Nat) (h1 : F.fn 234) (h2 : F.fn 215) (hro : F.round = none) (hn : 3 ≤ n) (Bs Bp : Nat) (a : Option Addr) (c : Nat) (ps : List Int) (s : Nat) (u : List (Fin 24)) (ht : treeB ps) (hs : s < ps.length) (hu : vals u = upF ps s s) (hul : u.length ≤ 1000) (w : World)
    (hBs : w.cell? ⟨Bs, 0, none⟩ = some (.int .i64 (s : Int))) (hM : WayMem a c ps Bp w) :
    CallsIn F n Tryz.prog 234 #[.slice none 0 0, .func (.func 215) #[] #[.pointer (some ⟨Bs, 0, none⟩), .pointer (some ⟨Bp, 0, none⟩)]] w fun e W' =>
      ∃ v, e = .returned v ∧ W'.ownsRow w.heap.size 3 1 v u.length (ints (vals u)) ∧ Below w.heap.size w W' := by
  have hn1 : 1 ≤ n := by omega
  obtain ⟨i0, hi, hz0, hz1, hz2⟩ := info_parts infoInt
  refine callsIn_of_wp_marks Tryz.func234 rfl h1 ?_ hro
  simp only [Tryz.ntmps234, List.size_toArray, List.length_cons, List.length_nil, Nat.reduceAdd, Nat.reduceSub, Array.replicate_succ, Array.replicate_zero, List.push_toArray, List.append_toArray, List.nil_append, List.cons_append]
  gi_wp2
  have bO := Boxed.new w 22 (.slice none 0 0)
  have hB0 : Below w.heap.size w (w.alloc (.cells #[.slice none 0 0] 22)) := low_alloc _ _
  refine wpIn_rangeFunc_ownG hro hn1 (gf := 215) (lb := #[.pointer (some ⟨Bs, 0, none⟩), .pointer (some ⟨Bp, 0, none⟩)]) rfl h2 (enters_of Tryz.func215 (by kernel_rfl) rfl)
    (wayUp_stops F (n - 1) h2 hro (by omega) Bs Bp a c ps s u ht hs hu _ ((hB0.cell (p := ⟨Bs, 0, none⟩) (World.block_lt_of_cell? _ _ hBs)).trans hBs) (wayMem_keep hM (Nat.le_refl _) hB0 hM)) wayMem_t (fun W l o o' _ h ho _ => wayMem_b W l o o' h ho) (Below.refl _ _) (fun _ => rfl)
    (fun pre W => (∃ v, Boxed W w.heap.size 22 v ∧ W.ownsRow w.heap.size 3 1 v pre.length (ints (vals pre)) ∧ True) ∧ Below w.heap.size w W)
    (fun _ _ _ => False)
    (OwnFrom.and (Own.from (holdsRow_own w.heap.size w.heap.size 22 3 1 (fun pre : List (Fin 24) => pre.length) (fun pre => ints (vals pre)) (fun _ _ => True)) _) (ownFrom_below (Nat.le_refl _) (by simp)))
    (fun _ _ _ _ _ hs _ _ => hs)
    ⟨⟨_, bO, World.ownsRow_nil _ _ _ _, trivial⟩, hB0⟩
    (fun x => { tmps := #[.slice none 0 0, .func (.func 215) #[] #[.pointer (some ⟨Bs, 0, none⟩), .pointer (some ⟨Bp, 0, none⟩)], .pointer (some ⟨w.heap.size, 0, none⟩), undef, .slice none 0 0, .int .i64 (x.val : Int), .func (.func 215) #[] #[.pointer (some ⟨Bs, 0, none⟩), .pointer (some ⟨Bp, 0, none⟩)], .int .i64 (x.val : Int), undef, undef, undef, undef, undef], defers := [] }) ?assign ?body ?done ?stop
  case assign =>
    intro l x W K hK
    gi_wp2
    exact hK
  case body =>
    rintro l pre x W ⟨⟨v, hv, hrow, _⟩, hB⟩ hlt
    have hc := hv.cell
    gi_wp2_with (gi_at_builtin; refine wpListIn_append_own _ rfl _ _ 22 rfl w.heap.size 3 i0 (.int .i64 0) 1 8 Tryz.underlying22 hi hz0 hz1 hz2 rfl (by decide) _ _ _ rfl (hrow.alloc _) ⟨W.heap.size, 0, none⟩ 1 1 [.int .i64 (x.val : Int)] rfl rfl (cell_one_new _ _ _) (by simp [Value.oneCell']) (by unfold maxLen; omega) (by omega) (by have := hB.size; simp; omega) ?_; intro v' w1 hown' hgrow _; obtain ⟨g', cap', rfl⟩ := ownsRow_succ hown'; obtain ⟨hv1, hv2, hr2, hk2, hb2⟩ := hv.appended (by decide) hrow hB.size (Nat.le_refl _) hown' hgrow; have hc1 := hv1.cell; have hf1 := hv1.frozen)
    exact ⟨hk2.from _, wayMem_keep hM (Nat.le_refl _) hb2, ⟨_, hv2, by rw [vals_snoc, ints, List.map_append]; simpa [ints] using hr2, trivial⟩, hB.trans hb2⟩
  case done =>
    rintro D ys W hD rfl ⟨⟨v, hv, hrow, _⟩, hB⟩ hK
    have hc := hv.cell
    gi_wp2
    refine ⟨by simp, .inl ⟨_, _, rfl, run_takeDeferred hK, ?_⟩⟩
    exact ⟨_, results_tmp rfl _ _ _, v, rfl, ownsRow_putObj hrow _ hK rfl, hB.trans (belowK_b (w := w) (Nat.le_refl _) W D _ _ (by simp at hD; omega) hK rfl rfl)⟩
  case stop =>
    rintro D c pre W _ _ h _
    exact h.elim

theorem collect_c (Bs Bp : Nat) (a : Option Addr) (c : Nat) (ps : List Int) (s : Nat) (u : List (Fin 24)) (ht : treeB ps) (hs : s < ps.length) (hu : vals u = upF ps s s) (hul : u.length ≤ 1000) (w : World)
    (hBs : w.cell? ⟨Bs, 0, none⟩ = some (.int .i64 (s : Int))) (hM : WayMem a c ps Bp w) :
    Calls Tryz.prog 210 #[.func (.func 215) #[] #[.pointer (some ⟨Bs, 0, none⟩), .pointer (some ⟨Bp, 0, none⟩)]] w fun e W' =>
      ∃ v, e = .returned v ∧ W'.ownsRow w.heap.size 3 1 v u.length (ints (vals u)) ∧ Below w.heap.size w W' := by
  have hA : Hid (Calls Tryz.prog 234 #[.slice none 0 0, .func (.func 215) #[] #[.pointer (some ⟨Bs, 0, none⟩), .pointer (some ⟨Bp, 0, none⟩)]] w fun e W' =>
      ∃ v, e = .returned v ∧ W'.ownsRow w.heap.size 3 1 v u.length (ints (vals u)) ∧ Below w.heap.size w W') := callsIn_wide.1 (appendSeq_in Fence.wide 3 trivial trivial rfl (Nat.le_refl _) Bs Bp a c ps s u ht hs hu hul w hBs hM)
  clear hBs hM hu ht
  go_enter Tryz.func210, Tryz.ntmps210
  go_wp2_with fail
  refine hA.out.mono ?_
  rintro e w1 ⟨v, rfl, ho, hb⟩
  have HO : Hid (w1.ownsRow w.heap.size 3 1 v u.length (ints (vals u))) := ho
  have HB : Hid (Below w.heap.size w w1) := hb
  clear ho hb
  go_wp2_with fail
  go_ret
  exact ⟨v, rfl, HO.out, HB.out⟩
end Go.Proofs.YtdmgcbagijiohaaGreat
