/- The walk up from a switch: the program's iterator. -/
import Derived.Test.YtdmgcbagijiohaaGreatMgRc
import Derived.RangeFuncNested
import Derived.RangeFuncBound
import Derived.RangeFuncCalls
import Derived.RangeFuncLeaves
import Derived.Shelf.Abstract
import Derived.Shelf.RegionOpen
import Derived.WalkKit
import Derived.OwnWalkIn
import Derived.TacticsInMore
import Derived.LoopNIn
import Derived.LoopIn
namespace Go.Proofs.YtdmgcbagijiohaaGreat
open Go.ChangeShapes Go.WideShapes Go.ChangeAt Go.RowKit Go.Shelf
attribute [local go_sem] Oper.semAt_some

theorem up_zero (ps : List Int) (f : Nat) : upF ps f 0 = [0] := by cases f <;> rfl
theorem up_step {ps : List Int} (ht : treeB ps) (j p : Nat) (hj : 0 < j) (hl : j < ps.length) (hp : ps[j]? = some (p : Int)) : upF ps j j = (j : Int) :: upF ps p p := by
  have htr := ht j p hj hp
  obtain ⟨jj, rfl⟩ : ∃ jj, j = jj + 1 := ⟨j - 1, by omega⟩
  rw [upF, if_pos (by omega), hp, Option.getD_some, Int.toNat_natCast, up_enough ht jj p p (by omega) (by omega) (Nat.le_refl _)]
theorem up_head (ps : List Int) (f s : Nat) : ∃ r, upF ps f s = (s : Int) :: r := by
  cases f with
  | zero => exact ⟨[], rfl⟩
  | succ f =>
    unfold upF
    split
    · exact ⟨_, rfl⟩
    · exact ⟨[], rfl⟩

theorem up_mem {ps : List Int} (ht : treeB ps) : ∀ (m s : Nat), s ≤ m → s < ps.length → ∀ x ∈ upF ps s s, 0 ≤ x ∧ x ≤ s := by
  intro m
  induction m with
  | zero =>
    intro s hs _ x hx
    obtain rfl : s = 0 := by omega
    rw [up_zero] at hx
    simp at hx
    omega
  | succ m ih =>
    intro s hs hl x hx
    by_cases h0 : s = 0
    · subst h0
      rw [up_zero] at hx
      simp at hx
      omega
    · have hp := ht s ps[s] (by omega) (List.getElem?_eq_getElem hl)
      obtain ⟨p, hpp⟩ : ∃ p : Nat, ps[s] = p := ⟨ps[s].toNat, by omega⟩
      rw [up_step ht s p (by omega) hl (by rw [List.getElem?_eq_getElem hl, hpp])] at hx
      rcases List.mem_cons.1 hx with rfl | hx
      · omega
      · have := ih p (by omega) (by omega) x hx
        omega

/-- Numbers of switches as they are handed to a round. -/
def vals (u : List (Fin 24)) : List Int := u.map fun x => (x.val : Int)
theorem vals_snoc (u : List (Fin 24)) (x : Fin 24) : vals (u ++ [x]) = vals u ++ [(x.val : Int)] := by simp [vals]

theorem way_fin {ps : List Int} (ht : treeB ps) (hf : ps.length ≤ 24) (s : Nat) (hs : s < ps.length) : ∃ u : List (Fin 24), vals u = upF ps s s := by
  have h := up_mem ht s s (Nat.le_refl _) hs
  generalize upF ps s s = l at h
  induction l with
  | nil => exact ⟨[], rfl⟩
  | cons x r ih =>
    obtain ⟨u, hu⟩ := ih (fun y hy => h y (by simp [hy]))
    have hx := h x (by simp)
    exact ⟨⟨x.toNat, by omega⟩ :: u, by simp [vals] at hu ⊢; exact ⟨by omega, hu⟩⟩

/-- What the walk up reads. -/
structure WayMem (a : Option Addr) (c : Nat) (ps : List Int) (Bp : Nat) (W : World) : Prop where
  box : W.cell? ⟨Bp, 0, none⟩ = some (.slice a ps.length c)
  all : Sq W a (ints ps)

theorem wayUp_c (a : Option Addr) (n c : Nat) (s : Int) (w : World) :
    Calls Tryz.prog 203 #[.slice a n c, .int .i64 s] w fun e w' => e = .returned (.func (.func 215) #[] #[.pointer (some ⟨w.heap.size + 1, 0, none⟩), .pointer (some ⟨w.heap.size, 0, none⟩)]) ∧ w' = (w.alloc (.cells #[.slice a n c] 22)).alloc (.cells #[.int .i64 s] 3) := by
  go_enter Tryz.func203, Tryz.ntmps203
  go_wp2_with fail
  go_ret
  exact ⟨rfl, rfl⟩

set_option maxRecDepth 100000 in
set_option maxHeartbeats 2000000 in
theorem wayUp1_in (F : Fence) (n : Nat) (hf : F.fn 215) (hro : F.round = none) (hn : 1 ≤ n) (l Bs Bp : Nat) (a : Option Addr) (c : Nat) (ps : List Int) (s : Nat) (u : List (Fin 24)) (ht : treeB ps) (hs : s < ps.length) (hu : vals u = upF ps s s) (J Jx : List (Fin 24) → World → Prop)
    (hY : ∀ pre x W, J pre W → pre.length < u.length → YieldAt F (n - 1) Tryz.prog l #[.int .i64 ((x : Fin 24).val : Int)] W fun e W' =>
      (e = .returned (.bool true) ∧ J (pre ++ [x]) W' ∧ (WayMem a c ps Bp W → WayMem a c ps Bp W')) ∨ (e = .returned (.bool false) ∧ Jx (pre ++ [x]) W'))
    (W : World) (hBs : W.cell? ⟨Bs, 0, none⟩ = some (.int .i64 (s : Int))) (hM : WayMem a c ps Bp W) (h0 : J [] W) :
    CallsIn F n Tryz.prog 215 #[.func (.yield l) #[] #[], .pointer (some ⟨Bs, 0, none⟩), .pointer (some ⟨Bp, 0, none⟩)] W fun e W' => (∃ v, e = .returned v) ∧
      ((∃ ys, ys = u ∧ J ys W') ∨ (∃ pre, pre <+: u ∧ Jx pre W')) := by
  refine callsIn_of_wp Tryz.func215 rfl hf ?_ hro
  simp only [Tryz.ntmps215, List.size_toArray, List.length_cons, List.length_nil, Nat.reduceAdd, Nat.reduceSub, Array.replicate_succ, Array.replicate_zero, List.push_toArray, List.append_toArray, List.nil_append, List.cons_append]
  gi_wp2
  gi_loopw [4] (fun v wr => ∃ (pre rest : List (Fin 24)) (x : Fin 24), v = .int .i64 (x.val : Int) ∧ u = pre ++ x :: rest ∧ x.val < ps.length ∧ vals (x :: rest) = upF ps x.val x.val ∧ WayMem a c ps Bp wr ∧ J pre wr)
    (fun v _ => (intOf v).toNat)
  case atStart =>
    obtain ⟨r, hr⟩ := up_head ps s s
    cases u with
    | nil => rw [hr] at hu; simp [vals] at hu
    | cons x rest =>
      have hx : (x.val : Int) = s := by rw [hr] at hu; simp [vals] at hu; omega
      have hx' : x.val = s := by omega
      exact ⟨[], rest, x, by rw [hx], rfl, by omega, by rw [hx']; exact hu, hM, h0⟩
  case round =>
    obtain ⟨pre, rest, x, rfl, hx, hxl, hv, hm, hJs⟩ := hrel
    obtain ⟨fn, tmps, assign, body, hy, hR⟩ := hY pre x wr hJs (by rw [hx]; simp)
    gi_wp2
    refine hR.mono ?_
    rintro e W3 (⟨rfl, hJ3, hk3⟩ | ⟨rfl, hJx3⟩)
    · have hm3 := hk3 hm
      clear hy hR hk3 hY
      by_cases hz : x.val = 0
      · have hrest : rest = [] := by
          rw [hz, up_zero] at hv
          cases rest with
          | nil => rfl
          | cons y r => simp [vals] at hv
        have hb : (((x.val : Nat) : Int) != 0) = false := by rw [hz]; rfl
        gi_wp2
        go_end0
        exact ⟨⟨_, rfl⟩, .inl ⟨pre ++ [x], by rw [hx, hrest], hJ3⟩⟩
      · have hb : (((x.val : Nat) : Int) != 0) = true := by simp; omega
        have hbx := hm3.box
        have htr := ht x.val ps[x.val] (by omega) (List.getElem?_eq_getElem hxl)
        obtain ⟨p, hp⟩ : ∃ p : Nat, ps[x.val] = p := ⟨ps[x.val].toNat, by omega⟩
        have hup := up_step ht x.val p (by omega) hxl (by rw [List.getElem?_eq_getElem hxl, hp])
        obtain ⟨q, rfl, _, hc⟩ := hm3.all.cell x.val _ (ints_at ps x.val hxl)
        rw [hp] at hc
        have hx0 : (0 : Int) ≤ ((x.val : Nat) : Int) := by omega
        have hx1 : ((x.val : Nat) : Int) < (ps.length : Int) := by omega
        have hrest : ∃ y r, rest = y :: r ∧ y.val = p ∧ vals (y :: r) = upF ps p p := by
          rw [hup] at hv
          have hv2 : vals rest = upF ps p p := by simpa [vals] using hv
          obtain ⟨r0, hr0⟩ := up_head ps p p
          cases rest with
          | nil => rw [hr0] at hv2; simp [vals] at hv2
          | cons y r =>
            refine ⟨y, r, rfl, ?_, hv2⟩
            rw [hr0] at hv2
            simp [vals] at hv2
            omega
        obtain ⟨y, r, rfl, hy, hvy⟩ := hrest
        gi_wp2
        go_roundw
        case rel => exact ⟨pre ++ [x], r, y, by rw [hy], by rw [hx]; simp, by omega, by rw [hy]; exact hvy, hm3, hJ3⟩
        case measure => simp [intOf]; omega
    · gi_wp2
      go_end0
      exact ⟨⟨_, rfl⟩, .inr ⟨pre ++ [x], ⟨rest, by rw [hx]; simp⟩, hJx3⟩⟩

/-- The walk up from s, for whatever loop. -/
theorem wayUp_stops (F : Fence) (n : Nat) (hf : F.fn 215) (hro : F.round = none) (hn : 1 ≤ n) (Bs Bp : Nat) (a : Option Addr) (c : Nat) (ps : List Int) (s : Nat) (u : List (Fin 24)) (ht : treeB ps) (hs : s < ps.length) (hu : vals u = upF ps s s) (w : World)
    (hBs : w.cell? ⟨Bs, 0, none⟩ = some (.int .i64 (s : Int))) (hM : WayMem a c ps Bp w) :
    SeqStopsK F n Tryz.prog 215 #[.pointer (some ⟨Bs, 0, none⟩), .pointer (some ⟨Bp, 0, none⟩)] (fun x : Fin 24 => #[.int .i64 (x.val : Int)]) (fun W W' => WayMem a c ps Bp W → WayMem a c ps Bp W') (fun ys => ys = u) (fun pre => pre <+: u) u.length w :=
  fun l J Jx W hW _ _ hY h0 => wayUp1_in F n hf hro hn l Bs Bp a c ps s u ht hs hu J Jx hY W ((hW.cell (p := ⟨Bs, 0, none⟩) (World.block_lt_of_cell? _ _ hBs)).trans hBs)
    ⟨(hW.cell (p := ⟨Bp, 0, none⟩) (World.block_lt_of_cell? _ _ hM.box)).trans hM.box, hM.all.below hW⟩ h0

theorem wayMem_t {a : Option Addr} {c : Nat} {ps : List Int} {Bp : Nat} {A B C : World} (h : WayMem a c ps Bp A → WayMem a c ps Bp B) (k : WayMem a c ps Bp B → WayMem a c ps Bp C) : WayMem a c ps Bp A → WayMem a c ps Bp C := fun x => k (h x)

theorem wayMem_b {a : Option Addr} {c : Nat} {ps : List Int} {Bp : Nat} (W : World) (l : Nat) (o o' : Obj) (h : W.heap[l]? = some o) (ho : o.isCells = false) : WayMem a c ps Bp W → WayMem a c ps Bp (W.putObj l o') := fun m => by
  have hk : ∀ {p : Addr} {v : Value}, W.cell? p = some v → (W.putObj l o').cell? p = some v := fun hc => cell_kept hc (grownBy_putObj' W l o') (fun r e => by cases e; exact ⟨o, h, ho⟩)
  refine ⟨hk m.box, ⟨fun i x hx => ?_⟩⟩
  obtain ⟨p, hp, hlt, hc⟩ := m.all.cell i x hx
  have hc' := hk hc
  exact ⟨p, hp, by have := World.block_lt_of_cell? _ _ hc'; rwa [block_add] at this, hc'⟩
end Go.Proofs.YtdmgcbagijiohaaGreat
