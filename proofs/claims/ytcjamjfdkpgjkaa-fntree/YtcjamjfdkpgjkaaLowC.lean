/- The lowest switch, by the program. -/
import Derived.Test.YtcjamjfdkpgjkaaLowA
import Derived.Test.YtcjamjfdkpgjkaaBelowA
namespace Go.Proofs.Ytcjamjfdkpgjkaa
open Go.ChangeShapes Go.WideShapes Go.ChangeAt Go.RowKit Go.Shelf
attribute [local go_sem] Oper.semAt_some

/-- The mark that a range over a function leaves. -/
def markOf (D : Nat) : Deferred := { target := .collected D, args := #[] }
/-- Such marks, each with its block. -/
structure MarksOk (B : Nat) (Ds : List Nat) (w : World) : Prop where
  nodup : Ds.Nodup
  each : ∀ D ∈ Ds, B ≤ D ∧ w.heap[D]? = some (.deferred (some []))

theorem MarksOk.lt {B : Nat} {Ds : List Nat} {w : World} (h : MarksOk B Ds w) : ∀ D ∈ Ds, D < w.heap.size := fun D hD => (Array.getElem?_eq_some_iff.1 (h.each D hD).2).1
theorem MarksOk.below {B : Nat} {Ds : List Nat} {w w' : World} (h : MarksOk B Ds w) (hb : Below w.heap.size w w') : MarksOk B Ds w' := ⟨h.nodup, fun D hD => ⟨(h.each D hD).1, (hb.block D (h.lt D hD)).trans (h.each D hD).2⟩⟩
theorem MarksOk.keeps {B : Nat} {Ds : List Nat} {w w' : World} (h : MarksOk B Ds w) (hk : KeepsOthers w w') : MarksOk B Ds w' := ⟨h.nodup, fun D hD => ⟨(h.each D hD).1, hk.same D _ (h.each D hD).2 rfl⟩⟩
theorem MarksOk.more {B D : Nat} {Ds : List Nat} {w : World} (h : MarksOk B Ds w) (hD : B ≤ D) (hn : D ∉ Ds) (hh : w.heap[D]? = some (.deferred (some []))) : MarksOk B (D :: Ds) w :=
  ⟨List.nodup_cons.2 ⟨hn, h.nodup⟩, fun E hE => by
    rcases List.mem_cons.1 hE with rfl | hE
    · exact ⟨hD, hh⟩
    · exact h.each E hE⟩
theorem marks_own {β : Type} (T B : Nat) (Ds : List Nat) (hT : ∀ D ∈ Ds, D < T) : OwnFrom T (fun (_ : β) W => MarksOk B Ds W) := fun _ W W' row hs hg hr =>
  ⟨hs.nodup, fun D hD => ⟨(hs.each D hD).1, (hg.block D (hs.lt D hD) (fun e => by have := (hr D e.symm).1; have := hT D hD; omega)).trans (hs.each D hD).2⟩⟩

theorem row_own {β : Type} (T g : Nat) (f : β → List Value) (hf : ∀ s, f s ≠ []) : OwnFrom T (fun (s : β) W => Row W g (f s)) := fun s W W' row hs hg hr => by
  refine hs.far hg (fun e => ?_)
  obtain ⟨_, o, ho, hc⟩ := hr g e.symm
  cases hx : f s with
  | nil => exact hf s hx
  | cons x r =>
    have h0 := hs.cell 0 x (by rw [hx]; rfl)
    unfold World.cell? at h0
    cases o <;> simp [ho, Obj.isCells] at h0 hc

theorem boxedEx_own {β : Type} (B : Nat) (t : TypeId) (G : β → Value → Prop) : Own (fun s W => ∃ v, Boxed W B t v ∧ G s v) := fun _ X Y row ⟨v, hs, hG⟩ hg hrow =>
  ⟨v, boxed_own (β := Unit) B t (fun _ => v) () X Y row hs hg hrow, hG⟩

/-- A frame leaves past its marks. -/
theorem leaves_marks {F : Fence} {n : Nat} {P : Program} {fn : Func} {tmps : Array Value} {R : Ending → World → Prop} (B : Nat) (Φ : World → Prop)
    (hΦ : ∀ w D, B ≤ D → w.heap[D]? = some (.deferred (some [])) → Φ w → Φ (w.putObj D (.deferred none))) (hend : ∀ w, Φ w → LeavesIn F n P fn tmps R [] .returning w) :
    ∀ (Ds : List Nat) (w : World), MarksOk B Ds w → Φ w → LeavesInM F n P fn tmps R (Ds.map markOf) .returning w
  | [], w, _, h => hend w h
  | D :: Ds, w, hm, h => by
    have hD := hm.each D (by simp)
    refine ⟨by simp, .inl ⟨D, _, rfl, run_takeDeferred hD.2, ?_⟩⟩
    refine leaves_marks B Φ hΦ hend Ds _ ⟨(List.nodup_cons.1 hm.nodup).2, fun E hE => ⟨(hm.each E (by simp [hE])).1, ?_⟩⟩ (hΦ w D hD.1 hD.2 h)
    exact (World.putObj_heap_other (fun e => (List.nodup_cons.1 hm.nodup).1 (by rw [← e]; exact hE))).trans (hm.each E (by simp [hE])).2

/-- How many of the first k nodes lie below s. -/
noncomputable def cntTo (ps : List Int) (ns : List Nd) (xs : List Int) (s : Int) : Nat → Nat
  | 0 => 0
  | k + 1 => cntTo ps ns xs s k + (open Classical in if ∃ x, xs[k]? = some x ∧ s ∈ upLeaf ps ns x then 1 else 0)
theorem cnt_le (ps : List Int) (ns : List Nd) (xs : List Int) (s : Int) : ∀ k, cntTo ps ns xs s k ≤ k
  | 0 => Nat.le_refl _
  | k + 1 => by
    have := cnt_le ps ns xs s k
    unfold cntTo
    split <;> omega
theorem cnt_all (ps : List Int) (ns : List Nd) (xs : List Int) (s : Int) : ∀ k, k ≤ xs.length → (cntTo ps ns xs s k = k ↔ ∀ x ∈ xs.take k, s ∈ upLeaf ps ns x)
  | 0, _ => by simp [cntTo]
  | k + 1, hk => by
    have ih := cnt_all ps ns xs s k (by omega)
    have hle := cnt_le ps ns xs s k
    have hx : xs[k]? = some xs[k] := List.getElem?_eq_getElem (by omega)
    rw [List.take_add_one, hx, Option.toList_some]
    unfold cntTo
    by_cases h : s ∈ upLeaf ps ns xs[k]
    · rw [if_pos ⟨_, hx, h⟩]
      constructor
      · intro e x hm
        rcases List.mem_append.1 hm with hm | hm
        · exact ih.1 (by omega) x hm
        · rw [List.mem_singleton.1 hm]; exact h
      · intro e
        have := ih.2 (fun x hm => e x (List.mem_append_left _ hm))
        omega
    · rw [if_neg (by rintro ⟨x, e, hm⟩; rw [hx] at e; cases e; exact h hm)]
      constructor
      · intro e; omega
      · intro e
        exact absurd (e xs[k] (List.mem_append_right _ (List.mem_singleton.2 rfl))) h

/-- A number for each switch. -/
def numRow (g : Nat → Nat) : List Value := (List.range 24).map fun j => .int .i64 (g j : Int)
theorem numRow_len (g : Nat → Nat) : (numRow g).length = 24 := by simp [numRow]
theorem numRow_at (g : Nat → Nat) (l : Nat) (h : l < 24) : (numRow g)[l]? = some (.int .i64 (g l : Int)) := by simp [numRow, h]
theorem numRow_ne (g : Nat → Nat) : numRow g ≠ [] := by intro e; have := numRow_len g; rw [e] at this; simp at this
theorem numRow_congr {g g' : Nat → Nat} (h : ∀ j, j < 24 → g j = g' j) : numRow g = numRow g' := by
  apply List.ext_getElem?
  intro i
  by_cases hi : i < 24
  · rw [numRow_at _ _ hi, numRow_at _ _ hi, h i hi]
  · rw [List.getElem?_eq_none (by rw [numRow_len]; omega), List.getElem?_eq_none (by rw [numRow_len]; omega)]
theorem numRow_set (g g' : Nat → Nat) (l : Nat) (h : l < 24) (h1 : g' l = g l + 1) (h2 : ∀ j, j ≠ l → g' j = g j) : (numRow g).set l (.int .i64 ((g l : Int) + 1)) = numRow g' := by
  apply List.ext_getElem?
  intro i
  by_cases hi : i < 24
  · by_cases e : i = l
    · subst e
      rw [List.getElem?_set_self (by rw [numRow_len]; exact hi), numRow_at _ _ hi, h1]
      simp
    · rw [List.getElem?_set_ne (by omega), numRow_at _ _ hi, numRow_at _ _ hi, h2 i e]
  · rw [List.getElem?_eq_none (by rw [List.length_set, numRow_len]; omega), List.getElem?_eq_none (by rw [numRow_len]; omega)]

/-- What the array holds when k nodes are gone through and of the next the walk up has come so far. -/
noncomputable def cntAt (ps : List Int) (ns : List Nd) (xs : List Int) (k : Nat) (pre : List (Fin 24)) (j : Nat) : Nat := cntTo ps ns xs (j : Int) k + (vals pre).count (j : Int)

theorem cntAt_snoc (ps : List Int) (ns : List Nd) (xs : List Int) (k : Nat) (pre : List (Fin 24)) (x : Fin 24) : (numRow (cntAt ps ns xs k pre)).set x.val (.int .i64 ((cntAt ps ns xs k pre x.val : Int) + 1)) = numRow (cntAt ps ns xs k (pre ++ [x])) := by
  refine numRow_set _ _ x.val x.isLt ?_ (fun j hj => ?_)
  · unfold cntAt
    rw [vals_snoc, List.count_append]
    simp
    omega
  · unfold cntAt
    rw [vals_snoc, List.count_append, List.count_singleton]
    rw [if_neg (by simp; omega)]
    omega

theorem cntAt_le (ps : List Int) (ns : List Nd) (xs : List Int) (k : Nat) (pre : List (Fin 24)) (j : Nat) : cntAt ps ns xs k pre j ≤ k + pre.length := by
  have h1 := cnt_le ps ns xs (j : Int) k
  have h2 : (vals pre).count (j : Int) ≤ (vals pre).length := List.count_le_length
  simp [vals] at h2
  unfold cntAt
  simp [vals]
  omega

theorem up_nodup {ps : List Int} (ht : treeB ps) : ∀ (m j : Nat), j ≤ m → j < ps.length → (upF ps j j).Nodup := by
  intro m
  induction m with
  | zero =>
    intro j hj _
    obtain rfl : j = 0 := by omega
    rw [up_zero]
    simp
  | succ m ih =>
    intro j hj hl
    by_cases e : j = 0
    · subst e
      rw [up_zero]
      simp
    · have hq := ht j ps[j] (by omega) (List.getElem?_eq_getElem hl)
      obtain ⟨p, hp⟩ : ∃ p : Nat, ps[j] = p := ⟨ps[j].toNat, by omega⟩
      rw [up_step ht j p (by omega) hl (by rw [List.getElem?_eq_getElem hl, hp])]
      refine List.nodup_cons.2 ⟨fun hz => ?_, ih p (by omega) (by omega)⟩
      have := up_mem ht p p (Nat.le_refl _) (by omega) _ hz
      omega

theorem cntAt_done {ps : List Int} {ns : List Nd} {xs : List Int} {k : Nat} {x : Int} {l : Nat} {u : List (Fin 24)} (ht : treeB ps) (hl : l < ps.length) (hx : xs[k]? = some x) (hu : vals u = upF ps l l) (hlf : upLeaf ps ns x = upF ps l l) : numRow (cntAt ps ns xs k u) = numRow (cntAt ps ns xs (k + 1) []) := by
  refine numRow_congr (fun j hj => ?_)
  unfold cntAt
  rw [hu]
  have hc : (vals ([] : List (Fin 24))).count (j : Int) = 0 := by simp [vals]
  rw [hc, cntTo]
  by_cases h : (j : Int) ∈ upF ps l l
  · rw [if_pos ⟨x, hx, by rw [hlf]; exact h⟩, (up_nodup ht l l (Nat.le_refl _) hl).count, if_pos h]
  · rw [if_neg (by rintro ⟨y, e, hm⟩; rw [hx] at e; cases e; rw [hlf] at hm; exact h hm), List.count_eq_zero.2 h]

theorem wayMem_set {a : Option Addr} {c : Nat} {ps : List Int} {Bp B i : Nat} {w W : World} {v : Value} (hM : Sq w a (ints ps)) (hB : w.heap.size ≤ B) (hBp : Bp ≠ B) : WayMem a c ps Bp W → WayMem a c ps Bp (W.setCell ⟨B, i, none⟩ v) := fun m => by
  have hg := Lib.grownBy_setCell W B i v
  refine ⟨(World.cell?_of_block (a := ⟨Bp, 0, none⟩) (hg.block Bp (World.block_lt_of_cell? _ _ m.box) (by intro e; exact hBp (Option.some.inj e)))).trans m.box, ⟨fun j x hx => ?_⟩⟩
  obtain ⟨p, hp, hlt, hc⟩ := m.all.cell j x hx
  obtain ⟨p', hp', hlt', _⟩ := hM.cell j x hx
  rw [hp] at hp'
  cases hp'
  exact ⟨p, hp, Nat.lt_of_lt_of_le hlt hg.size, (World.cell?_of_block (a := p.add j) (by rw [block_add]; exact hg.block p.block hlt (by intro e; have := Option.some.inj e; omega))).trans hc⟩
end Go.Proofs.Ytcjamjfdkpgjkaa
