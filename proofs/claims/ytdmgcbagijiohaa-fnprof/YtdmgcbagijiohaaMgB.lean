/- A profile drawn: the walk. -/
import Derived.Test.YtdmgcbagijiohaaMgA
import Derived.Test.YtdmgcbagijiohaaTkH
import Derived.Deep.DeepCutAuto
import Derived.Deep.RegionWith
import Derived.Deep.RegionLaw
namespace Go.Proofs.Ytdmgcbagijiohaa
open Go.ChangeShapes Go.WideShapes Go.ChangeAt Go.RowKit

/-- A profile in the box Bt, since w only the cursor has been written of what lay there. -/
structure Dp (w W : World) (g : Nat) (a : Option Addr) (n cap Bt : Nat) (v : Value) (ns : List Nd) : Prop where
  cur0 : Cur w g a n cap
  cur : Cur W g a n cap
  grown : w.grownBy W (some g)
  res : Row W w.heap.size [.slice none 0 0]
  box : Row W Bt [v]
  bt : w.heap.size < Bt
  own : W.ownsRow (w.heap.size + 1) 80 4 v ns.length (flat ns)
  ne : v.ownBlock ≠ some Bt

theorem flat_set : ∀ (ns : List Nd) (i : Nat) (x : Int), i < 4 * ns.length → ∃ ns' : List Nd, ns'.length = ns.length ∧ flat ns' = (flat ns).set i (.int .i64 x)
  | [], i, x, h => by simp at h
  | nd :: r, i, x, h => by
    show ∃ ns' : List Nd, ns'.length = (nd :: r).length ∧ flat ns' = (nd.cells ++ flat r).set i (.int .i64 x)
    by_cases hi : i < 4
    · rw [List.set_append_left _ _ (by simpa [Nd.cells] using hi)]
      match i, hi with
      | 0, _ => exact ⟨⟨x, nd.a, nd.b, nd.c⟩ :: r, rfl, rfl⟩
      | 1, _ => exact ⟨⟨nd.l, x, nd.b, nd.c⟩ :: r, rfl, rfl⟩
      | 2, _ => exact ⟨⟨nd.l, nd.a, x, nd.c⟩ :: r, rfl, rfl⟩
      | 3, _ => exact ⟨⟨nd.l, nd.a, nd.b, x⟩ :: r, rfl, rfl⟩
    · obtain ⟨ns', hl, hf⟩ := flat_set r (i - 4) x (by simp at h; omega)
      refine ⟨nd :: ns', by simp [hl], ?_⟩
      rw [List.set_append_right _ _ (by simp [Nd.cells]; omega), show nd.cells.length = 4 from rfl, ← hf]
      rfl

theorem flat_int : ∀ (ns : List Nd) (i : Nat), i < 4 * ns.length → ∃ x : Int, (flat ns)[i]? = some (.int .i64 x)
  | [], i, h => by simp at h
  | nd :: r, i, h => by
    show ∃ x : Int, (nd.cells ++ flat r)[i]? = some (.int .i64 x)
    by_cases hi : i < 4
    · rw [List.getElem?_append_left (by simpa [Nd.cells] using hi)]
      match i, hi with
      | 0, _ => exact ⟨_, rfl⟩
      | 1, _ => exact ⟨_, rfl⟩
      | 2, _ => exact ⟨_, rfl⟩
      | 3, _ => exact ⟨_, rfl⟩
    · rw [List.getElem?_append_right (by simp [Nd.cells]; omega)]
      exact flat_int r _ (by simp [Nd.cells] at h ⊢; omega)

section
variable {w W W' : World} {g : Nat} {a : Option Addr} {n cap Bt : Nat} {v : Value} {ns : List Nd}
theorem Dp.low (h : Dp w W g a n cap Bt v ns) : g < w.heap.size := h.cur0.lt
theorem Dp.below (h : Dp w W g a n cap Bt v ns) (hb : Below W.heap.size W W') : Dp w W' g a n cap Bt v ns :=
  ⟨h.cur0, h.cur.below hb, Lib.grownBy_below h.grown hb, h.res.below hb, h.box.below hb, h.bt, owns_below h.own hb, h.ne⟩
theorem Dp.drawn (h : Dp w W g a n cap Bt v ns) (hg : W.grownBy W' (some g)) (hc : Cur W' g a n cap) : Dp w W' g a n cap Bt v ns := by
  have hl := h.low
  have hb := h.bt
  exact ⟨h.cur0, hc, Lib.grownBy_trans h.grown hg, h.res.far hg (fun e => by have := Option.some.inj e; omega), h.box.far hg (fun e => by have := Option.some.inj e; omega), h.bt, h.own.kept hg (.inr (fun e => by have := (h.own.lt g e).1; omega)), h.ne⟩
/-- Another block, made since, is written. -/
theorem Dp.on (h : Dp w W g a n cap Bt v ns) {F i : Nat} {x : Value} (hF : w.heap.size ≤ F) : Tip w (W.setCell ⟨F, i, none⟩ x) g a n cap := Tip.set h.cur0 ⟨h.grown, h.cur⟩ F i hF x
theorem Dp.put (h : Dp w W g a n cap Bt v ns) {B : Nat} {v' : Value} {ns' : List Nd} (ho : W.ownsRow B 80 4 v' ns'.length (flat ns')) (hB : Bt < B) : Dp w (W.setCell ⟨Bt, 0, none⟩ v') g a n cap Bt v' ns' := by
  have hb := h.bt
  have t := h.on (F := Bt) (i := 0) (x := v') (by omega)
  exact ⟨h.cur0, t.2, t.1, h.res.apart Bt 0 v' (by omega), h.box.set 0 (by simp) v', h.bt, owns_mono (owns_set ho hB) (by omega), fun e => by have := (ho.lt _ e).1; omega⟩
/-- One cell of the points is written. -/
theorem Dp.cell (h : Dp w W g a n cap Bt v ns) {gN c : Nat} (hv : v = .slice (some ⟨gN, 0, none⟩) ns.length c) (i : Nat) (hi : i < 4 * ns.length) (x : Int) : ∃ ns' : List Nd, ns'.length = ns.length ∧ Dp w (W.setCell ⟨gN, i, none⟩ (.int .i64 x)) g a n cap Bt v ns' := by
  subst hv
  obtain ⟨ns', hl, hf⟩ := flat_set ns i x hi
  have hgN := (h.own.lt gN rfl).1
  have hne : Bt ≠ gN := fun e => h.ne (by rw [e]; rfl)
  have t := h.on (F := gN) (i := i) (x := .int .i64 x) (by omega)
  refine ⟨ns', hl, h.cur0, t.2, t.1, h.res.apart gN i _ (by omega), h.box.apart gN i _ hne, h.bt, ?_, h.ne⟩
  rw [hf, hl]
  exact (h.own.stored i (.int .i64 x)).1
theorem Dp.form (h : Dp w W g a n cap Bt v ns) : ∃ p c, v = .slice p ns.length c ∧ ns.length ≤ c ∧ Sq W p (flat ns) := by
  obtain ⟨p, c, hv, hs⟩ := (AnsP.of_owns h.own).form
  refine ⟨p, c, hv, ?_, hs⟩
  rcases h.own.2 with ⟨h1, h2⟩ | ⟨g', cap', cur, h', _, _, hnc, _⟩
  · omega
  · rw [hv] at h'
    cases h'
    exact hnc
theorem Dp.sq {p : Option Addr} {c m : Nat} (h : Dp w W g a n cap Bt (.slice p m c) ns) : Sq W p (flat ns) := by
  obtain ⟨p', c', hv, _, hs⟩ := h.form
  cases hv
  exact hs
theorem Dp.cellN {gN c : Nat} (h : Dp w W g a n cap Bt (.slice (some ⟨gN, 0, none⟩) ns.length c) ns) (i : Nat) (hi : i < 4 * ns.length) : (∃ x : Int, W.cell? ⟨gN, i, none⟩ = some (.int .i64 x)) ∧ W.frozen? ⟨gN, i, none⟩ = false := by
  refine ⟨?_, h.own.frozenAt i⟩
  rw [h.own.cellAt i (by omega)]
  exact flat_int ns i hi
theorem Dp.block (h : Dp w W g a n cap Bt v ns) (hn : 0 < ns.length) : ∃ gN c, v = .slice (some ⟨gN, 0, none⟩) ns.length c := by
  rcases h.own.2 with ⟨h1, h2⟩ | ⟨g', cap', cur, h', _⟩
  · omega
  · exact ⟨_, _, h'⟩
/-- A point put behind the others. -/
theorem Dp.add {v1 : Value} (h : Dp w W g a n cap Bt v ns) (x : Nd) (hown : W'.ownsRow (w.heap.size + 1) 80 4 v1 (ns.length + 1) (flat ns ++ [.int .i64 x.l, .int .i64 x.a, .int .i64 x.b, .int .i64 x.c])) (hg : W.grownBy W' v.ownBlock) (hat : v1.ownBlock = v.ownBlock ∨ v1.ownBlock = some W.heap.size) :
    Row W' Bt [v] ∧ Dp w (W'.setCell ⟨Bt, 0, none⟩ v1) g a n cap Bt v1 (ns ++ [x]) := by
  have hb := h.bt
  have hl := h.low
  have hB := h.box.lt
  have hv : ∀ k, v.ownBlock = some k → w.heap.size + 1 ≤ k := fun k e => (h.own.lt k e).1
  have hbox : Row W' Bt [v] := h.box.far hg (fun e => h.ne e.symm)
  have hne : v1.ownBlock ≠ some Bt := by
    rcases hat with e | e
    · rw [e]; exact h.ne
    · rw [e]; intro e2; have := Option.some.inj e2; omega
  have hg1 : w.grownBy W' (some g) := grown_opt h.grown hg (fun k e => by have := hv k e; omega)
  have hc1 : Cur W' g a n cap := by
    cases e : v.ownBlock with
    | none =>
      rw [e] at hg
      exact Cur.on (b := Bt) h.cur0 hg1 h.cur ⟨hg.os, hg.tape, hg.output, hg.size, fun i hi _ => hg.block i hi (by simp)⟩ (by omega)
    | some k =>
      rw [e] at hg
      exact Cur.on (b := k) h.cur0 hg1 h.cur hg (by have := hv k e; omega)
  have t := Tip.set h.cur0 ⟨hg1, hc1⟩ Bt 0 (by omega) v1
  refine ⟨hbox, h.cur0, t.2, t.1, (h.res.far hg (fun e => by have := hv _ e.symm; omega)).apart Bt 0 v1 (by omega), hbox.set 0 (by simp) v1, h.bt, ?_, hne⟩
  rw [List.length_append, List.length_singleton, flat_add, cells_one]
  exact hown.kept (Lib.grownBy_setCell W' Bt 0 v1) (.inr hne)
/-- What is drawn, laid into the result's box. -/
theorem Dp.done (h : Dp w W g a n cap Bt v ns) : ∃ p c, v = .slice p ns.length c ∧ ns.length ≤ c ∧ (W.setCell ⟨w.heap.size, 0, none⟩ v).cell? ⟨w.heap.size, 0, none⟩ = some v ∧ Sq (W.setCell ⟨w.heap.size, 0, none⟩ v) p (flat ns) ∧ (W.setCell ⟨w.heap.size, 0, none⟩ v).ownsRow (w.heap.size + 1) 80 4 v ns.length (flat ns) ∧
    Cur (W.setCell ⟨w.heap.size, 0, none⟩ v) g a n cap ∧ w.grownBy (W.setCell ⟨w.heap.size, 0, none⟩ v) (some g) := by
  obtain ⟨p, c, hv, hc, hs⟩ := h.form
  have t := h.on (F := w.heap.size) (i := 0) (x := v) (Nat.le_refl _)
  have ho := owns_set (F := w.heap.size) (i := 0) (x := v) h.own (by omega)
  have hr := h.res.set 0 (by simp) v
  refine ⟨p, c, hv, hc, hr.cell 0 _ rfl, ?_, ho, t.2, t.1⟩
  obtain ⟨p', c', hv', hs'⟩ := (AnsP.of_owns ho).form
  rw [hv] at hv'
  cases hv'
  exact hs'
end

theorem specProfNew_o (x y z : Int) (hv : vokB x y z = true) (w : World) :
    Calls Try.prog 106 #[.agg #[.int .i64 x, .int .i64 y, .int .i64 z]] w (RetO w [⟨0, x, y, z⟩] true) := by
  go_enter Try.func106, Try.ntmps106
  go_wp2_with fail
  generalize hV : (w.alloc (.cells #[.int .i64 x, .int .i64 y, .int .i64 z] 27)).alloc (.cells #[.slice none 0 0] 25) = V
  have HA : Hid (Row V w.heap.size [.int .i64 x, .int .i64 y, .int .i64 z]) := by subst hV; exact (row_fresh w [.int .i64 x, .int .i64 y, .int .i64 z] 27).below (low_alloc _ _)
  have HR : Hid (Row V (w.heap.size + 1) [.slice none 0 0]) := by
    subst hV
    have h := row_fresh (w.alloc (.cells #[.int .i64 x, .int .i64 y, .int .i64 z] 27)) [.slice none 0 0] 25
    rw [show (w.alloc (.cells #[.int .i64 x, .int .i64 y, .int .i64 z] 27)).heap.size = w.heap.size + 1 by simp [go_sem]] at h
    exact h
  have HV : Hid (Below w.heap.size w V) := by subst hV; show Below _ _ _; go_grown
  clear hV
  refine (specVecOk_c x y z _).mono ?_
  rintro e w1 ⟨rfl, hb⟩
  have HB1 : Hid (Below w.heap.size w w1) := below_then HV.out hb
  have a0 := (HA.out.below hb).cell 0 _ rfl
  have a1 := (HA.out.below hb).cell 1 _ rfl
  have a2 := (HA.out.below hb).cell 2 _ rfl
  have r0 := (HR.out.below hb).cell 0 _ rfl
  have f0 := (HR.out.below hb).free 0
  have hsz := (HR.out.below hb).lt
  clear hb HA HR
  rw [hv]
  have hne : w.heap.size + 1 ≠ w1.heap.size := by omega
  go_wp2_with fail
  refine bodyPost_ret (v := .tuple #[.agg #[.slice (some ⟨w1.heap.size, 0, none⟩) 1 1], .bool true]) (by simp [results, Try.results106, go_sem, *]) rfl ⟨_, rfl, ?_, behind_alloc (HB1.out.setCell (by show w.heap.size ≤ w.heap.size + 1; omega) _) _⟩
  have h := owns_one (w1.setCell ⟨w.heap.size + 1, 0, none⟩ (.slice (some ⟨w1.heap.size, 0, none⟩) 1 1)) ⟨0, x, y, z⟩
  rw [World.size_setCell] at h
  exact owns_mono h HB1.out.size

theorem tk_pok {add : Bool} {v : Nd} {ns : List Nd} {f u : Int} (h : (tkR add v ns f u).isSome = true) : POk ((tkR add v ns f u).getD []) := by
  obtain ⟨r, hr⟩ := Option.isSome_iff_exists.1 h
  rw [hr]
  exact (tk_some hr).2.2.2

theorem specProfTake_p (b : Option Addr) (d : Nat) (ns : List Nd) (f u : Int) (v : Nd) (w : World) (h : Sq w b (flat ns)) :
    Calls Try.prog 9 #[.agg #[.slice b ns.length d], .int .i64 f, .int .i64 u, .agg #[.int .i64 v.a, .int .i64 v.b, .int .i64 v.c]] w fun e w' => ∃ (a' : Option Addr) (c' : Nat) (r : List Nd) (k : Bool), e = .returned (.tuple #[.agg #[.slice a' r.length c'], .bool k]) ∧ (k = true → POk r) ∧ w'.ownsRow w.heap.size 80 4 (.slice a' r.length c') r.length (flat r) ∧ Below w.heap.size w w' := by
  refine (specProfTake_o b d ns f u v w h).mono ?_
  rintro e w' ⟨v0, rfl, ho, hb⟩
  obtain ⟨a', c', hv⟩ := owns_form ho
  subst hv
  exact ⟨a', c', _, _, rfl, tk_pok, ho, hb⟩

/-- The next profile lies in its box X, the one before in Bt. -/
def Nx (w U W : World) (g : Nat) (a : Option Addr) (n cap Bt : Nat) (v : Value) (ns : List Nd) (X : Nat) (u : Value) (r : List Nd) : Prop := Row W X [u] ∧ W.ownsRow U.heap.size 80 4 u r.length (flat r) ∧ Dp w W g a n cap Bt v ns

theorem fin_nx {w U W W2 : World} {g : Nat} {a : Option Addr} {n cap Bt : Nat} {v : Value} {ns : List Nd} {X : Nat} {z u : Value} {r : List Nd} (hX : Row W X [z]) (ho : W2.ownsRow W.heap.size 80 4 u r.length (flat r)) (hb : Below W.heap.size W W2) (hd : Dp w W2 g a n cap Bt v ns)
    (hUX : U.heap.size ≤ X) (hv : ∀ k, v.ownBlock = some k → k < U.heap.size) (hB : Bt < U.heap.size) : Nx w U (W2.setCell ⟨X, 0, none⟩ u) g a n cap Bt v ns X u r := by
  have hl := hX.lt
  have hbt := hd.bt
  have t := hd.on (F := X) (i := 0) (x := u) (by omega)
  refine ⟨(hX.below hb).set 0 (by simp) u, owns_mono (owns_set ho hl) (by omega), hd.cur0, t.2, t.1, hd.res.apart X 0 u (by omega), hd.box.apart X 0 u (by omega), hd.bt, ?_, hd.ne⟩
  exact hd.own.kept (Lib.grownBy_setCell W2 X 0 u) (.inr (fun e => by have := hv X e; omega))

theorem fin_nx_new {w U W2 : World} {B : Nat} {g : Nat} {a : Option Addr} {n cap Bt : Nat} {v : Value} {ns : List Nd} {u : Value} {r : List Nd} {t : TypeId} (ho : W2.ownsRow B 80 4 u r.length (flat r)) (hB : U.heap.size ≤ B) (hd : Dp w W2 g a n cap Bt v ns) :
    Nx w U (W2.alloc (.cells #[u] t)) g a n cap Bt v ns W2.heap.size u r := ⟨row_fresh W2 [u] t, owns_mono (owns_below ho (low_alloc _ _)) hB, hd.below (low_alloc _ _)⟩
end Go.Proofs.Ytdmgcbagijiohaa

namespace Go.Proofs.Ytdmgcbagijiohaa
open Go.ChangeShapes Go.WideShapes Go.ChangeAt Go.RowKit

theorem pok_first : POk [⟨0, 8, 16, 2⟩] := by
  refine ⟨by simp, by simp, fun n h => ?_, fun i n h => ?_, fun i m k h h' => ?_⟩
  · simp at h; rw [← h]
  · cases i with
    | zero => simp at h; rw [← h]; exact ⟨by decide, by decide⟩
    | succ i => simp at h
  · simp at h'

set_option maxRecDepth 100000 in
set_option maxHeartbeats 8000000 in
theorem l03Draw_c (g : Nat) (a : Option Addr) (n cap : Nat) (w : World) (h : Cur w g a n cap) :
    Calls Try.prog 65 #[.pointer (some ⟨g, 0, none⟩)] w fun e W' => ∃ v ns, e = .returned (.agg #[v]) ∧ POk ns ∧ W'.ownsRow w.heap.size 80 4 v ns.length (flat ns) ∧ Cur W' g a n cap ∧ w.grownBy W' (some g) := by
  have HC : Hid (Cur w g a n cap) := h
  have hgl := h.lt
  clear h
  go_enter Try.func65, Try.ntmps65
  go_wp2_with fail
  have HB0 : Hid (Below w.heap.size w (w.alloc (.cells #[.slice none 0 0] 25))) := low_alloc _ _
  have HR0 : Hid (Row (w.alloc (.cells #[.slice none 0 0] 25)) w.heap.size [.slice none 0 0]) := row_fresh w [.slice none 0 0] 25
  have hs0 : (w.alloc (.cells #[.slice none 0 0] 25)).heap.size = w.heap.size + 1 := by simp [go_sem]
  refine (specProfNew_o 8 16 2 (by decide) _).mono ?_
  rintro e w1 ⟨v1, rfl, ho, hb⟩
  obtain ⟨a1, c1, hv1⟩ := owns_form ho
  subst hv1
  have hs1 := hb.size
  have HD1 : Hid (Dp w (w1.alloc (.cells #[.slice a1 1 c1] 25)) g a n cap w1.heap.size (.slice a1 1 c1) [⟨0, 8, 16, 2⟩]) := by
    have hB1 : Below w.heap.size w w1 := below_then HB0.out hb
    have hB2 := behind_alloc hB1 (.cells #[.slice a1 1 c1] 25)
    rw [hs0] at ho
    refine ⟨HC.out, HC.out.below hB2, ⟨hB2.os, hB2.tape, hB2.output, hB2.size, fun i hi _ => hB2.block i hi⟩, (HR0.out.below hb).below (low_alloc _ _), row_fresh w1 [.slice a1 1 c1] 25, by omega, owns_below ho (low_alloc _ _), fun e => ?_⟩
    have := (ho.lt _ e).2
    omega
  clear ho hb HB0 HR0 hs0
  go_wp2_with fail
  generalize w1.alloc (.cells #[.slice a1 1 c1] 25) = w2 at HD1
  generalize w1.heap.size = Bt at *
  refine (l01Below_c g a n cap 6 (by decide) (by decide) _ HD1.out.cur).mono ?_
  rintro e w3 ⟨x, rfl, hx0, hx1, hg, hc⟩
  obtain ⟨m0, rfl⟩ : ∃ m : Nat, x = m := ⟨x.toNat, by omega⟩
  have HD3 : Hid (Dp w w3 g a n cap Bt (.slice a1 1 c1) [⟨0, 8, 16, 2⟩]) := HD1.out.drawn hg hc
  clear hg hc HD1
  have HP0 : Hid (POk [⟨0, 8, 16, 2⟩]) := pok_first
  go_wp2_with fail
  go_loopw [5] (fun i wr => ∃ (m : Nat) (v : Value) (ns : List Nd), i = .int .i64 m ∧ m ≤ 5 ∧ Dp w wr g a n cap Bt v ns ∧ POk ns) (fun i _ => (intOf i).toNat)
  case atStart => exact ⟨m0, _, _, rfl, by omega, HD3.out, HP0.out⟩
  case round =>
    obtain ⟨m, v, ns, rfl, hm, hd, hok⟩ := hrel
    have HD4 : Hid (Dp w wr g a n cap Bt v ns) := hd
    have HOk : Hid (POk ns) := hok
    obtain ⟨p1, c1, hv, _⟩ := hd.form
    subst hv
    have hbt := hd.bt
    clear hd hok HD3 HP0 hx0 hx1
    by_cases hz : 0 < m
    · have hz' : (0 : Int) < (m : Int) := by omega
      go_wp2_with fail
      refine (l01Below_c g a n cap 60 (by decide) (by decide) _ HD4.out.cur).mono ?_
      rintro e U ⟨x, rfl, hx0, hx1, hg, hc⟩
      have HD5 : Hid (Dp w U g a n cap Bt (.slice p1 ns.length c1) ns) := HD4.out.drawn hg hc
      clear hg hc HD4
      go_wp2_with fail
      have hUB := HD5.out.box.lt
      have Hvb : Hid (∀ k, (Value.slice p1 ns.length c1).ownBlock = some k → k < U.heap.size) := fun k e => (HD5.out.own.lt k e).2
      have HK : Hid (∀ W : World, Dp w W g a n cap Bt (.slice p1 ns.length c1) ns → U.heap.size ≤ W.heap.size → Dp w W g a n cap Bt (.slice p1 ns.length c1) ns ∧ U.heap.size ≤ W.heap.size ∧ W.cell? ⟨Bt, 0, none⟩ = some (.slice p1 ns.length c1)) := fun W h hz => ⟨h, hz, h.box.cell 0 _ rfl⟩
      have D1 : Hid (Dp w U.drew g a n cap Bt (.slice p1 ns.length c1) ns) := HD5.out.below (low_drew U)
      have z1 : U.heap.size ≤ U.drew.heap.size := Nat.le_refl _
      have D2 : Hid (Dp w (U.alloc (.cells #[.slice none 0 0] 25)).drew g a n cap Bt (.slice p1 ns.length c1) ns) := (HD5.out.below (low_alloc _ _)).below (low_drew _)
      have z2 : U.heap.size ≤ (U.alloc (.cells #[.slice none 0 0] 25)).drew.heap.size := (low_alloc U _).size
      go_cut [7, 8] (fun p q wc => ∃ (X : Nat) (a' : Option Addr) (c' : Nat) (r : List Nd) (k : Bool), p = .pointer (some ⟨X, 0, none⟩) ∧ q = .bool k ∧ (k = true → POk r) ∧ Nx w U wc g a n cap Bt (.slice p1 ns.length c1) ns X (.slice a' r.length c') r)
      case first =>
        go_region_held3 (fun W => Dp w W g a n cap Bt (.slice p1 ns.length c1) ns ∧ U.heap.size ≤ W.heap.size ∧ W.cell? ⟨Bt, 0, none⟩ = some (.slice p1 ns.length c1)) ((go_split_ands; refine HK.out _ ?_ ?_ <;> first | (exact Hid.out (by with_reducible assumption)) | (exact Dp.below (Hid.out (by with_reducible assumption)) (low_alloc _ _)) | (with_reducible assumption) | (exact Dp.below (by with_reducible assumption) (low_alloc _ _)) | (exact FB.out.2.2) | omega | (rw [World.size_setCell]; omega) | (simp [go_sem]; omega)))
          (first
          | (go_at_call_of 35 (Value.int IntKind.i64 40); refine (l01Below_c g a n cap 40 (by decide) (by decide) _ (Dp.cur (And.left (by with_reducible assumption)))).mono ?_; rintro e wk ⟨y1, rfl, hy10, hy11, hgk, hck⟩; have Dk : Hid (Dp w wk g a n cap Bt (.slice p1 ns.length c1) ns) := Dp.drawn (And.left (by with_reducible assumption)) hgk hck; have zk : U.heap.size ≤ wk.heap.size := Nat.le_trans (And.left (And.right (by with_reducible assumption))) hgk.size; (try have HX : Hid (Row wk _ [.slice none 0 0]) := HX.out.far hgk (fun e => by have := Option.some.inj e; omega)); (try (first | have HX : Hid (Row wk _ [.slice none 0 0]) := (row_fresh _ [.slice none 0 0] 25).far hgk (fun e => by have := Option.some.inj e; omega) | have HX : Hid (Row wk _ [.slice none 0 0]) := ((row_fresh _ [.slice none 0 0] 25).below (low_drew _)).far hgk (fun e => by have := Option.some.inj e; omega))); (try have hxc := HX.out.cell 0 _ rfl); (try have hxf := HX.out.free 0); clear hgk hck)
          | (go_at_call_of 35 (Value.int IntKind.i64 4); refine (l01Below_c g a n cap 4 (by decide) (by decide) _ (Dp.cur (And.left (by with_reducible assumption)))).mono ?_; rintro e wk ⟨y2, rfl, hy20, hy21, hgk, hck⟩; have Dk : Hid (Dp w wk g a n cap Bt (.slice p1 ns.length c1) ns) := Dp.drawn (And.left (by with_reducible assumption)) hgk hck; have zk : U.heap.size ≤ wk.heap.size := Nat.le_trans (And.left (And.right (by with_reducible assumption))) hgk.size; (try have HX : Hid (Row wk _ [.slice none 0 0]) := HX.out.far hgk (fun e => by have := Option.some.inj e; omega)); (try (first | have HX : Hid (Row wk _ [.slice none 0 0]) := (row_fresh _ [.slice none 0 0] 25).far hgk (fun e => by have := Option.some.inj e; omega) | have HX : Hid (Row wk _ [.slice none 0 0]) := ((row_fresh _ [.slice none 0 0] 25).below (low_drew _)).far hgk (fun e => by have := Option.some.inj e; omega))); (try have hxc := HX.out.cell 0 _ rfl); (try have hxf := HX.out.free 0); clear hgk hck)
          | (go_at_call_of 35 (Value.int IntKind.i64 6); refine (l01Below_c g a n cap 6 (by decide) (by decide) _ (Dp.cur (And.left (by with_reducible assumption)))).mono ?_; rintro e wk ⟨y3, rfl, hy30, hy31, hgk, hck⟩; have Dk : Hid (Dp w wk g a n cap Bt (.slice p1 ns.length c1) ns) := Dp.drawn (And.left (by with_reducible assumption)) hgk hck; have zk : U.heap.size ≤ wk.heap.size := Nat.le_trans (And.left (And.right (by with_reducible assumption))) hgk.size; (try have HX : Hid (Row wk _ [.slice none 0 0]) := HX.out.far hgk (fun e => by have := Option.some.inj e; omega)); (try (first | have HX : Hid (Row wk _ [.slice none 0 0]) := (row_fresh _ [.slice none 0 0] 25).far hgk (fun e => by have := Option.some.inj e; omega) | have HX : Hid (Row wk _ [.slice none 0 0]) := ((row_fresh _ [.slice none 0 0] 25).below (low_drew _)).far hgk (fun e => by have := Option.some.inj e; omega))); (try have hxc := HX.out.cell 0 _ rfl); (try have hxf := HX.out.free 0); clear hgk hck)
          | (go_at_call_of 35 (Value.int IntKind.i64 2); refine (l01Below_c g a n cap 2 (by decide) (by decide) _ (Dp.cur (And.left (by with_reducible assumption)))).mono ?_; rintro e wk ⟨y4, rfl, hy40, hy41, hgk, hck⟩; have Dk : Hid (Dp w wk g a n cap Bt (.slice p1 ns.length c1) ns) := Dp.drawn (And.left (by with_reducible assumption)) hgk hck; have zk : U.heap.size ≤ wk.heap.size := Nat.le_trans (And.left (And.right (by with_reducible assumption))) hgk.size; (try have HX : Hid (Row wk _ [.slice none 0 0]) := HX.out.far hgk (fun e => by have := Option.some.inj e; omega)); (try (first | have HX : Hid (Row wk _ [.slice none 0 0]) := (row_fresh _ [.slice none 0 0] 25).far hgk (fun e => by have := Option.some.inj e; omega) | have HX : Hid (Row wk _ [.slice none 0 0]) := ((row_fresh _ [.slice none 0 0] 25).below (low_drew _)).far hgk (fun e => by have := Option.some.inj e; omega))); (try have hxc := HX.out.cell 0 _ rfl); (try have hxf := HX.out.free 0); clear hgk hck)
          | (go_at_call 9; refine (specProfTake_p p1 c1 ns _ _ ⟨0, y2, y3, y4⟩ _ (Dp.sq (And.left (by with_reducible assumption)))).mono ?_; rintro e wk ⟨a', c', r, k, rfl, hk, ho, hbk⟩;
              have Dk : Hid (Dp w wk g a n cap Bt (.slice p1 ns.length c1) ns) := Dp.below (And.left (by with_reducible assumption)) hbk; have zk : U.heap.size ≤ wk.heap.size := Nat.le_trans (And.left (And.right (by with_reducible assumption))) hbk.size;
              (try have FB : Hid (Nx w U (wk.setCell ⟨_, 0, none⟩ (.slice a' r.length c')) g a n cap Bt (.slice p1 ns.length c1) ns _ (.slice a' r.length c') r) := fin_nx HX.out ho hbk Dk.out (by first | exact Nat.le_refl _ | omega | (simp [go_sem]; omega)) Hvb.out hUB);
              (try have FB : Hid (Nx w U (wk.setCell ⟨_, 0, none⟩ (.slice a' r.length c')) g a n cap Bt (.slice p1 ns.length c1) ns _ (.slice a' r.length c') r) := fin_nx (row_fresh _ [.slice none 0 0] 25) ho hbk Dk.out (by first | exact Nat.le_refl _ | omega | (simp [go_sem]; omega)) Hvb.out hUB);
              have FN : Hid (Nx w U (wk.alloc (.cells #[(.slice a' r.length c')] 25)) g a n cap Bt (.slice p1 ns.length c1) ns wk.heap.size (.slice a' r.length c') r) := fin_nx_new ho (And.left (And.right (by with_reducible assumption))) Dk.out;
              have HPk : Hid (k = true → POk r) := hk; clear hk ho; (try (first | have HX : Hid (Row wk _ [.slice none 0 0]) := HX.out.below hbk | have HX : Hid (Row wk _ [.slice none 0 0]) := (row_fresh _ [.slice none 0 0] 25).below hbk)); (try have hxc := HX.out.cell 0 _ rfl); (try have hxf := HX.out.free 0); clear hbk))
        all_goals
          go_split_ands
          go_wp2_with fail
          go_meet
          case rel =>
            first
              | exact ⟨_, _, _, _, _, rfl, rfl, HPk.out, FB.out⟩
              | exact ⟨U.heap.size, _, _, _, _, rfl, rfl, HPk.out, FB.out⟩
              | exact ⟨_, _, _, _, _, rfl, rfl, HPk.out, FN.out⟩
      case rest =>
      obtain ⟨X, a', c', r, k, rfl, rfl, hk, hX, ho, hd⟩ := hcut
      have HD6 : Hid (Dp w wc g a n cap Bt (.slice p1 ns.length c1) ns) := hd
      have HR6 : Hid (POk r) ∨ k = false := by
        cases k
        · exact .inr rfl
        · exact .inl (hk rfl)
      have x0 := hX.cell 0 _ rfl
      have bf := hd.box.free 0
      have b0 := hd.box.cell 0 _ rfl
      cases k
      · clear HR6 hk ho hX hd D1 D2 HK
        go_wp2_with fail
        exact ⟨⟨m - 1, _, ns, by go_num, by omega, HD6.out, HOk.out⟩, by simp [intOf]; omega⟩
      · have HP6 : Hid (POk r) := hk rfl
        have HD7 : Hid (Dp w (wc.setCell ⟨Bt, 0, none⟩ (.slice a' r.length c')) g a n cap Bt (.slice a' r.length c') r) := hd.put ho hUB
        clear HR6 hk ho hX hd D1 D2 HK
        go_wp2_with fail
        exact ⟨⟨m - 1, _, r, by go_num, by omega, HD7.out, HP6.out⟩, by simp [intOf]; omega⟩
    · obtain rfl : m = 0 := by omega
      have b3 := HD4.out.box.cell 0 _ rfl
      have r3 := HD4.out.res.cell 0 _ rfl
      have rf3 := HD4.out.res.free 0
      obtain ⟨p, c, hv, hpc, d1, d2, d3, d4, d5⟩ := HD4.out.done
      cases hv
      go_wp2_with fail
      exact bodyPost_ret (v := .agg #[.slice p1 ns.length c1]) (by simp [results, Try.results65, go_sem, *]) rfl ⟨_, ns, rfl, HOk.out, owns_mono d3 (by omega), d4, d5⟩
end Go.Proofs.Ytdmgcbagijiohaa
