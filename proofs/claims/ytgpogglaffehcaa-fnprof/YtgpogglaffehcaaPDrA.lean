/- A profile drawn: what is kept. -/
import Derived.Test.YtgpogglaffehcaaP6M
import Derived.Test.YtgpogglaffehcaaPNew
import Derived.Test.YtgpogglaffehcaaCurE
import Derived.Test.YtgpogglaffehcaaDrA
import Derived.Test.YtgpogglaffehcaaTkH
import Derived.Deep.DeepCutAuto
import Derived.Deep.RegionWith
import Derived.Deep.RegionLaw
namespace Go.Proofs.Ytgpogglaffehcaa
open Go.ChangeShapes Go.WideShapes Go.ChangeAt Go.RowKit

/-- A profile in the box Bt, since w only the cursor has been written of what lay there. -/
structure Dp (w W : World) (g : Nat) (a : Option Addr) (n cap Bt : Nat) (v : Value) (ns : List Nd) : Prop where
  cur0 : Cur w g a n cap
  cur : Cur W g a n cap
  grown : w.grownBy W (some g)
  res : Row W w.heap.size [.slice none 0 0]
  box : Row W Bt [v]
  bt : w.heap.size < Bt
  own : W.ownsRow (w.heap.size + 1) 47 4 v ns.length (flat ns)
  ne : v.ownBlock ≠ some Bt

theorem flat_set : ∀ (ns : List Nd) (i : Nat) (x : Int), i < 4 * ns.length → ∃ ns' : List Nd, ns'.length = ns.length ∧ flat ns' = (flat ns).set i (.int .i64 x)
  | [], i, x, h => by simp at h
  | nd :: r, i, x, h => by
    show ∃ ns' : List Nd, ns'.length = (nd :: r).length ∧ flat ns' = (nd.cells ++ flat r).set i (.int .i64 x)
    by_cases hi : i < 4
    · rw [List.set_append_left _ _ (by simpa [Nd.cells] using hi)]
      match i, hi with
      | 0, _ => exact ⟨⟨x, nd.a, nd.b, nd.c⟩ :: r, rfl, rfl⟩
      | 1, _ => exact ⟨⟨nd.l, x, nd.b, nd.c⟩ :: r, rfl, rfl⟩
      | 2, _ => exact ⟨⟨nd.l, nd.a, x, nd.c⟩ :: r, rfl, rfl⟩
      | 3, _ => exact ⟨⟨nd.l, nd.a, nd.b, x⟩ :: r, rfl, rfl⟩
    · obtain ⟨ns', hl, hf⟩ := flat_set r (i - 4) x (by simp at h; omega)
      refine ⟨nd :: ns', by simp [hl], ?_⟩
      rw [List.set_append_right _ _ (by simp [Nd.cells]; omega), show nd.cells.length = 4 from rfl, ← hf]
      rfl

theorem flat_int : ∀ (ns : List Nd) (i : Nat), i < 4 * ns.length → ∃ x : Int, (flat ns)[i]? = some (.int .i64 x)
  | [], i, h => by simp at h
  | nd :: r, i, h => by
    show ∃ x : Int, (nd.cells ++ flat r)[i]? = some (.int .i64 x)
    by_cases hi : i < 4
    · rw [List.getElem?_append_left (by simpa [Nd.cells] using hi)]
      match i, hi with
      | 0, _ => exact ⟨_, rfl⟩
      | 1, _ => exact ⟨_, rfl⟩
      | 2, _ => exact ⟨_, rfl⟩
      | 3, _ => exact ⟨_, rfl⟩
    · rw [List.getElem?_append_right (by simp [Nd.cells]; omega)]
      exact flat_int r _ (by simp [Nd.cells] at h ⊢; omega)

section
variable {w W W' : World} {g : Nat} {a : Option Addr} {n cap Bt : Nat} {v : Value} {ns : List Nd}
theorem Dp.low (h : Dp w W g a n cap Bt v ns) : g < w.heap.size := h.cur0.lt
theorem Dp.below (h : Dp w W g a n cap Bt v ns) (hb : Below W.heap.size W W') : Dp w W' g a n cap Bt v ns :=
  ⟨h.cur0, h.cur.below hb, Lib.grownBy_below h.grown hb, h.res.below hb, h.box.below hb, h.bt, owns_below h.own hb, h.ne⟩
theorem Dp.drawn (h : Dp w W g a n cap Bt v ns) (hg : W.grownBy W' (some g)) (hc : Cur W' g a n cap) : Dp w W' g a n cap Bt v ns := by
  have hl := h.low
  have hb := h.bt
  exact ⟨h.cur0, hc, Lib.grownBy_trans h.grown hg, h.res.far hg (fun e => by have := Option.some.inj e; omega), h.box.far hg (fun e => by have := Option.some.inj e; omega), h.bt, h.own.kept hg (.inr (fun e => by have := (h.own.lt g e).1; omega)), h.ne⟩
/-- Another block, made since, is written. -/
theorem Dp.on (h : Dp w W g a n cap Bt v ns) {F i : Nat} {x : Value} (hF : w.heap.size ≤ F) : Tip w (W.setCell ⟨F, i, none⟩ x) g a n cap := Tip.set h.cur0 ⟨h.grown, h.cur⟩ F i hF x
theorem Dp.put (h : Dp w W g a n cap Bt v ns) {B : Nat} {v' : Value} {ns' : List Nd} (ho : W.ownsRow B 47 4 v' ns'.length (flat ns')) (hB : Bt < B) : Dp w (W.setCell ⟨Bt, 0, none⟩ v') g a n cap Bt v' ns' := by
  have hb := h.bt
  have t := h.on (F := Bt) (i := 0) (x := v') (by omega)
  exact ⟨h.cur0, t.2, t.1, h.res.apart Bt 0 v' (by omega), h.box.set 0 (by simp) v', h.bt, owns_mono (owns_set ho hB) (by omega), fun e => by have := (ho.lt _ e).1; omega⟩
/-- One cell of the points is written. -/
theorem Dp.cell (h : Dp w W g a n cap Bt v ns) {gN c : Nat} (hv : v = .slice (some ⟨gN, 0, none⟩) ns.length c) (i : Nat) (hi : i < 4 * ns.length) (x : Int) : ∃ ns' : List Nd, ns'.length = ns.length ∧ Dp w (W.setCell ⟨gN, i, none⟩ (.int .i64 x)) g a n cap Bt v ns' := by
  subst hv
  obtain ⟨ns', hl, hf⟩ := flat_set ns i x hi
  have hgN := (h.own.lt gN rfl).1
  have hne : Bt ≠ gN := fun e => h.ne (by rw [e]; rfl)
  have t := h.on (F := gN) (i := i) (x := .int .i64 x) (by omega)
  refine ⟨ns', hl, h.cur0, t.2, t.1, h.res.apart gN i _ (by omega), h.box.apart gN i _ hne, h.bt, ?_, h.ne⟩
  rw [hf, hl]
  exact (h.own.stored i (.int .i64 x)).1
theorem Dp.form (h : Dp w W g a n cap Bt v ns) : ∃ p c, v = .slice p ns.length c ∧ ns.length ≤ c ∧ Sq W p (flat ns) := by
  obtain ⟨p, c, hv, hs⟩ := (AnsP.of_owns h.own).form
  refine ⟨p, c, hv, ?_, hs⟩
  rcases h.own.2 with ⟨h1, h2⟩ | ⟨g', cap', cur, h', _, _, hnc, _⟩
  · omega
  · rw [hv] at h'
    cases h'
    exact hnc
theorem Dp.sq {p : Option Addr} {c m : Nat} (h : Dp w W g a n cap Bt (.slice p m c) ns) : Sq W p (flat ns) := by
  obtain ⟨p', c', hv, _, hs⟩ := h.form
  cases hv
  exact hs
theorem Dp.cellN {gN c : Nat} (h : Dp w W g a n cap Bt (.slice (some ⟨gN, 0, none⟩) ns.length c) ns) (i : Nat) (hi : i < 4 * ns.length) : (∃ x : Int, W.cell? ⟨gN, i, none⟩ = some (.int .i64 x)) ∧ W.frozen? ⟨gN, i, none⟩ = false := by
  refine ⟨?_, h.own.frozenAt i⟩
  rw [h.own.cellAt i (by omega)]
  exact flat_int ns i hi
theorem Dp.block (h : Dp w W g a n cap Bt v ns) (hn : 0 < ns.length) : ∃ gN c, v = .slice (some ⟨gN, 0, none⟩) ns.length c := by
  rcases h.own.2 with ⟨h1, h2⟩ | ⟨g', cap', cur, h', _⟩
  · omega
  · exact ⟨_, _, h'⟩
/-- A point put behind the others. -/
theorem Dp.add {v1 : Value} (h : Dp w W g a n cap Bt v ns) (x : Nd) (hown : W'.ownsRow (w.heap.size + 1) 47 4 v1 (ns.length + 1) (flat ns ++ [.int .i64 x.l, .int .i64 x.a, .int .i64 x.b, .int .i64 x.c])) (hg : W.grownBy W' v.ownBlock) (hat : v1.ownBlock = v.ownBlock ∨ v1.ownBlock = some W.heap.size) :
    Row W' Bt [v] ∧ Dp w (W'.setCell ⟨Bt, 0, none⟩ v1) g a n cap Bt v1 (ns ++ [x]) := by
  have hb := h.bt
  have hl := h.low
  have hB := h.box.lt
  have hv : ∀ k, v.ownBlock = some k → w.heap.size + 1 ≤ k := fun k e => (h.own.lt k e).1
  have hbox : Row W' Bt [v] := h.box.far hg (fun e => h.ne e.symm)
  have hne : v1.ownBlock ≠ some Bt := by
    rcases hat with e | e
    · rw [e]; exact h.ne
    · rw [e]; intro e2; have := Option.some.inj e2; omega
  have hg1 : w.grownBy W' (some g) := grown_opt h.grown hg (fun k e => by have := hv k e; omega)
  have hc1 : Cur W' g a n cap := by
    cases e : v.ownBlock with
    | none =>
      rw [e] at hg
      exact Cur.on (b := Bt) h.cur0 hg1 h.cur ⟨hg.os, hg.tape, hg.output, hg.size, fun i hi _ => hg.block i hi (by simp)⟩ (by omega)
    | some k =>
      rw [e] at hg
      exact Cur.on (b := k) h.cur0 hg1 h.cur hg (by have := hv k e; omega)
  have t := Tip.set h.cur0 ⟨hg1, hc1⟩ Bt 0 (by omega) v1
  refine ⟨hbox, h.cur0, t.2, t.1, (h.res.far hg (fun e => by have := hv _ e.symm; omega)).apart Bt 0 v1 (by omega), hbox.set 0 (by simp) v1, h.bt, ?_, hne⟩
  rw [List.length_append, List.length_singleton, flat_add, cells_one]
  exact hown.kept (Lib.grownBy_setCell W' Bt 0 v1) (.inr hne)
/-- What is drawn, laid into the result's box. -/
theorem Dp.done (h : Dp w W g a n cap Bt v ns) : ∃ p c, v = .slice p ns.length c ∧ ns.length ≤ c ∧ (W.setCell ⟨w.heap.size, 0, none⟩ v).cell? ⟨w.heap.size, 0, none⟩ = some v ∧ Sq (W.setCell ⟨w.heap.size, 0, none⟩ v) p (flat ns) ∧ (W.setCell ⟨w.heap.size, 0, none⟩ v).ownsRow (w.heap.size + 1) 47 4 v ns.length (flat ns) ∧
    Cur (W.setCell ⟨w.heap.size, 0, none⟩ v) g a n cap ∧ w.grownBy (W.setCell ⟨w.heap.size, 0, none⟩ v) (some g) := by
  obtain ⟨p, c, hv, hc, hs⟩ := h.form
  have t := h.on (F := w.heap.size) (i := 0) (x := v) (Nat.le_refl _)
  have ho := owns_set (F := w.heap.size) (i := 0) (x := v) h.own (by omega)
  have hr := h.res.set 0 (by simp) v
  refine ⟨p, c, hv, hc, hr.cell 0 _ rfl, ?_, ho, t.2, t.1⟩
  obtain ⟨p', c', hv', hs'⟩ := (AnsP.of_owns ho).form
  rw [hv] at hv'
  cases hv'
  exact hs'
end

theorem specProfNew_o (x y z : Int) (hv : vokB x y z = true) (w : World) :
    Calls Try.prog 150 #[.agg #[.int .i64 x, .int .i64 y, .int .i64 z]] w (RetO w [⟨0, x, y, z⟩] true) := by
  go_enter Try.func150, Try.ntmps150
  go_wp2_with fail
  generalize hV : (w.alloc (.cells #[.int .i64 x, .int .i64 y, .int .i64 z] 27)).alloc (.cells #[.slice none 0 0] 25) = V
  have HA : Hid (Row V w.heap.size [.int .i64 x, .int .i64 y, .int .i64 z]) := by subst hV; exact (row_fresh w [.int .i64 x, .int .i64 y, .int .i64 z] 27).below (low_alloc _ _)
  have HR : Hid (Row V (w.heap.size + 1) [.slice none 0 0]) := by
    subst hV
    have h := row_fresh (w.alloc (.cells #[.int .i64 x, .int .i64 y, .int .i64 z] 27)) [.slice none 0 0] 25
    rw [show (w.alloc (.cells #[.int .i64 x, .int .i64 y, .int .i64 z] 27)).heap.size = w.heap.size + 1 by simp [go_sem]] at h
    exact h
  have HV : Hid (Below w.heap.size w V) := by subst hV; show Below _ _ _; go_grown
  clear hV
  refine (specVecOk_c x y z _).mono ?_
  rintro e w1 ⟨rfl, hb⟩
  have HB1 : Hid (Below w.heap.size w w1) := below_then HV.out hb
  have a0 := (HA.out.below hb).cell 0 _ rfl
  have a1 := (HA.out.below hb).cell 1 _ rfl
  have a2 := (HA.out.below hb).cell 2 _ rfl
  have r0 := (HR.out.below hb).cell 0 _ rfl
  have f0 := (HR.out.below hb).free 0
  have hsz := (HR.out.below hb).lt
  clear hb HA HR
  rw [hv]
  have hne : w.heap.size + 1 ≠ w1.heap.size := by omega
  go_wp2_with fail
  refine bodyPost_ret (v := .tuple #[.agg #[.slice (some ⟨w1.heap.size, 0, none⟩) 1 1], .bool true]) (by simp [results, Try.results150, go_sem, *]) rfl ⟨_, rfl, ?_, behind_alloc (HB1.out.setCell (by show w.heap.size ≤ w.heap.size + 1; omega) _) _⟩
  have h := owns_one (w1.setCell ⟨w.heap.size + 1, 0, none⟩ (.slice (some ⟨w1.heap.size, 0, none⟩) 1 1)) ⟨0, x, y, z⟩
  rw [World.size_setCell] at h
  exact owns_mono h HB1.out.size

theorem tk_pok {add : Bool} {v : Nd} {ns : List Nd} {f u : Int} (h : (tkR add v ns f u).isSome = true) : POk ((tkR add v ns f u).getD []) := by
  obtain ⟨r, hr⟩ := Option.isSome_iff_exists.1 h
  rw [hr]
  exact (tk_some hr).2.2.2

theorem specProfTake_p (b : Option Addr) (d : Nat) (ns : List Nd) (f u : Int) (v : Nd) (w : World) (h : Sq w b (flat ns)) :
    Calls Try.prog 14 #[.agg #[.slice b ns.length d], .int .i64 f, .int .i64 u, .agg #[.int .i64 v.a, .int .i64 v.b, .int .i64 v.c]] w fun e w' => ∃ (a' : Option Addr) (c' : Nat) (r : List Nd) (k : Bool), e = .returned (.tuple #[.agg #[.slice a' r.length c'], .bool k]) ∧ (k = true → POk r) ∧ w'.ownsRow w.heap.size 47 4 (.slice a' r.length c') r.length (flat r) ∧ Below w.heap.size w w' := by
  refine (specProfTake_o b d ns f u v w h).mono ?_
  rintro e w' ⟨v0, rfl, ho, hb⟩
  obtain ⟨a', c', hv⟩ := owns_form ho
  subst hv
  exact ⟨a', c', _, _, rfl, tk_pok, ho, hb⟩

/-- The next profile lies in its box X, the one before in Bt. -/
def Nx (w U W : World) (g : Nat) (a : Option Addr) (n cap Bt : Nat) (v : Value) (ns : List Nd) (X : Nat) (u : Value) (r : List Nd) : Prop := Row W X [u] ∧ W.ownsRow U.heap.size 47 4 u r.length (flat r) ∧ Dp w W g a n cap Bt v ns

theorem fin_nx {w U W W2 : World} {g : Nat} {a : Option Addr} {n cap Bt : Nat} {v : Value} {ns : List Nd} {X : Nat} {z u : Value} {r : List Nd} (hX : Row W X [z]) (ho : W2.ownsRow W.heap.size 47 4 u r.length (flat r)) (hb : Below W.heap.size W W2) (hd : Dp w W2 g a n cap Bt v ns)
    (hUX : U.heap.size ≤ X) (hv : ∀ k, v.ownBlock = some k → k < U.heap.size) (hB : Bt < U.heap.size) : Nx w U (W2.setCell ⟨X, 0, none⟩ u) g a n cap Bt v ns X u r := by
  have hl := hX.lt
  have hbt := hd.bt
  have t := hd.on (F := X) (i := 0) (x := u) (by omega)
  refine ⟨(hX.below hb).set 0 (by simp) u, owns_mono (owns_set ho hl) (by omega), hd.cur0, t.2, t.1, hd.res.apart X 0 u (by omega), hd.box.apart X 0 u (by omega), hd.bt, ?_, hd.ne⟩
  exact hd.own.kept (Lib.grownBy_setCell W2 X 0 u) (.inr (fun e => by have := hv X e; omega))

theorem fin_nx_new {w U W2 : World} {B : Nat} {g : Nat} {a : Option Addr} {n cap Bt : Nat} {v : Value} {ns : List Nd} {u : Value} {r : List Nd} {t : TypeId} (ho : W2.ownsRow B 47 4 u r.length (flat r)) (hB : U.heap.size ≤ B) (hd : Dp w W2 g a n cap Bt v ns) :
    Nx w U (W2.alloc (.cells #[u] t)) g a n cap Bt v ns W2.heap.size u r := ⟨row_fresh W2 [u] t, owns_mono (owns_below ho (low_alloc _ _)) hB, hd.below (low_alloc _ _)⟩
end Go.Proofs.Ytgpogglaffehcaa
