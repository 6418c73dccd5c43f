/- A topology that is being drawn: what lies there. -/
import Derived.Test.YtgpogglaffehcaaCurE
import Derived.Test.YtgpogglaffehcaaTopJ
import Derived.Deep.AppendLies
import Derived.RangeFuncBox
namespace Go.Proofs.Ytgpogglaffehcaa
open Go.ChangeShapes Go.WideShapes Go.ChangeAt Go.RowKit

/-- The block of a row that a slice owns. -/
theorem owns_block {W : World} {B g n cap size : Nat} {e : TypeId} {xs : List Value} (h : W.ownsRow B e size (.slice (some ⟨g, 0, none⟩) n cap) n xs) : (∃ cur, W.heap[g]? = some (.cells cur e (0, 0))) ∧ B ≤ g ∧ g < W.heap.size := by
  obtain ⟨_, h⟩ := h
  rcases h with ⟨h, _⟩ | ⟨g', cap', cur, hv, hB, hg, _⟩
  · cases h
  · cases hv
    exact ⟨⟨cur, hg⟩, hB, (Array.getElem?_eq_some_iff.1 hg).1⟩

/-- A box of two cells. -/
def Box2 (W : World) (B : Nat) (t : TypeId) (x y : Value) : Prop := W.heap[B]? = some (.cells #[x, y] t (0, 0))
theorem Box2.lt {W : World} {B : Nat} {t : TypeId} {x y : Value} (h : Box2 W B t x y) : B < W.heap.size := (Array.getElem?_eq_some_iff.1 h).1
theorem Box2.cell0 {W : World} {B : Nat} {t : TypeId} {x y : Value} (h : Box2 W B t x y) : W.cell? ⟨B, 0, none⟩ = some x := by simp [World.cell?, show W.heap[B]? = _ from h]
theorem Box2.cell1 {W : World} {B : Nat} {t : TypeId} {x y : Value} (h : Box2 W B t x y) : W.cell? ⟨B, 1, none⟩ = some y := by simp [World.cell?, show W.heap[B]? = _ from h]
theorem Box2.frozen {W : World} {B : Nat} {t : TypeId} {x y : Value} (h : Box2 W B t x y) (i : Nat) : W.frozen? ⟨B, i, none⟩ = false := by simp [World.frozen?, show W.heap[B]? = _ from h]
theorem Box2.kept {W W' : World} {row : Option Nat} {B : Nat} {t : TypeId} {x y : Value} (h : Box2 W B t x y) (hg : W.grownBy W' row) (hne : some B ≠ row) : Box2 W' B t x y := (hg.block B h.lt hne).trans h
theorem Box2.below {W W' : World} {B : Nat} {t : TypeId} {x y : Value} (h : Box2 W B t x y) (hb : Below W.heap.size W W') : Box2 W' B t x y := (hb.block B h.lt).trans h
theorem Box2.new (W : World) (t : TypeId) (x y : Value) : Box2 (W.alloc (.cells #[x, y] t)) W.heap.size t x y := World.alloc_heap_new W _
theorem Box2.set0 {W : World} {B : Nat} {t : TypeId} {x y : Value} (h : Box2 W B t x y) (v : Value) : Box2 (W.setCell ⟨B, 0, none⟩ v) B t v y := by
  unfold Box2 at h ⊢
  rw [Array.getElem?_eq_some_iff] at h ⊢
  obtain ⟨hl, h2⟩ := h
  exact ⟨by simp [World.setCell]; exact hl, by simp [World.setCell, Array.getElem_modify, h2]⟩
theorem Box2.set1 {W : World} {B : Nat} {t : TypeId} {x y : Value} (h : Box2 W B t x y) (v : Value) : Box2 (W.setCell ⟨B, 1, none⟩ v) B t x v := by
  unfold Box2 at h ⊢
  rw [Array.getElem?_eq_some_iff] at h ⊢
  obtain ⟨hl, h2⟩ := h
  exact ⟨by simp [World.setCell]; exact hl, by simp [World.setCell, Array.getElem_modify, h2]⟩
theorem Box2.ne {W : World} {B g : Nat} {t e : TypeId} {x y : Value} {cur : Array Value} (h : Box2 W B t x y) (hg : W.heap[g]? = some (.cells cur e (0, 0))) (hte : t ≠ e) : B ≠ g := fun he => by
  subst he
  rw [show W.heap[B]? = _ from h] at hg
  simp at hg
  exact hte hg.2

/-- A topology that is being drawn, in the box Bt; the cursor in g; what lay in w lies as it lay, but for the cursor. -/
structure Dw (w W : World) (g : Nat) (a : Option Addr) (n cap Bt gp cp : Nat) (ps : List Int) (vN : Value) (ns : List Nd) : Prop where
  cur0 : Cur w g a n cap
  cur : Cur W g a n cap
  box : Box2 W Bt 76 (.slice (some ⟨gp, 0, none⟩) ps.length cp) vN
  par : W.ownsRow w.heap.size 3 1 (.slice (some ⟨gp, 0, none⟩) ps.length cp) ps.length (ints ps)
  nod : W.ownsRow w.heap.size 158 4 vN ns.length (flat ns)
  res : Box2 W w.heap.size 76 (.slice none 0 0) (.slice none 0 0)
  grown : w.grownBy W (some g)
  low : g < w.heap.size
  high : w.heap.size < Bt
  ne : vN.ownBlock ≠ some Bt

theorem Dw.below {w W W' : World} {g : Nat} {a : Option Addr} {n cap Bt gp cp : Nat} {ps : List Int} {vN : Value} {ns : List Nd} (h : Dw w W g a n cap Bt gp cp ps vN ns) (hb : Below W.heap.size W W') : Dw w W' g a n cap Bt gp cp ps vN ns :=
  ⟨h.cur0, h.cur.below hb, h.box.below hb, owns_below h.par hb, owns_below h.nod hb, h.res.below hb, ⟨hb.os.trans h.grown.os, hb.tape.trans h.grown.tape, hb.output.trans h.grown.output, Nat.le_trans h.grown.size hb.size, fun i hi hne => (hb.block i (Nat.lt_of_lt_of_le hi h.grown.size)).trans (h.grown.block i hi hne)⟩, h.low, h.high, h.ne⟩

/-- Behind a draw. -/
theorem Dw.drawn {w W W' : World} {g : Nat} {a : Option Addr} {n cap Bt gp cp : Nat} {ps : List Int} {vN : Value} {ns : List Nd} (h : Dw w W g a n cap Bt gp cp ps vN ns) (hg : W.grownBy W' (some g)) (hc : Cur W' g a n cap) : Dw w W' g a n cap Bt gp cp ps vN ns := by
  have hl := h.low
  have hh := h.high
  obtain ⟨_, hp, _⟩ := owns_block h.par
  refine ⟨h.cur0, hc, h.box.kept hg (by intro e; have := Option.some.inj e; omega), h.par.kept hg (.inr (by intro e; simp [Value.ownBlock] at e; omega)), ?_, h.res.kept hg (by intro e; have := Option.some.inj e; omega), ⟨hg.os.trans h.grown.os, hg.tape.trans h.grown.tape, hg.output.trans h.grown.output, Nat.le_trans h.grown.size hg.size, fun i hi hne => (hg.block i (Nat.lt_of_lt_of_le hi h.grown.size) hne).trans (h.grown.block i hi hne)⟩, hl, hh, h.ne⟩
  refine h.nod.kept hg ?_
  cases hv : vN.ownBlock with
  | none => exact .inl rfl
  | some k =>
    refine .inr (fun e => ?_)
    have := (h.nod.lt k hv).1
    have := Option.some.inj e
    omega

theorem grown_then {w W W' : World} {g b : Nat} (h : w.grownBy W (some g)) (hg : W.grownBy W' (some b)) (hb : w.heap.size ≤ b) : w.grownBy W' (some g) :=
  ⟨hg.os.trans h.os, hg.tape.trans h.tape, hg.output.trans h.output, Nat.le_trans h.size hg.size, fun i hi hne => (hg.block i (Nat.lt_of_lt_of_le hi h.size) (by intro e; have := Option.some.inj e; omega)).trans (h.block i hi hne)⟩

/-- Rows of two types lie apart. -/
theorem owns_apart {W : World} {B n size gp : Nat} {e e' : TypeId} {v : Value} {xs : List Value} {cur : Array Value} (h : W.ownsRow B e size v n xs) (hg : W.heap[gp]? = some (.cells cur e' (0, 0))) (hne : e ≠ e') : v.ownBlock ≠ some gp := by
  obtain ⟨_, h⟩ := h
  rcases h with ⟨rfl, _⟩ | ⟨g, cap, c2, rfl, _, hg2, _⟩
  · simp [Value.ownBlock]
  · intro he
    simp [Value.ownBlock] at he
    subst he
    rw [hg2] at hg
    simp at hg
    exact hne hg.2

/-- One more parent: behind the append, and behind the store into the box. -/
theorem Dw.parent {w W w' : World} {g : Nat} {a : Option Addr} {n cap Bt gp cp gq cq : Nat} {ps : List Int} {vN : Value} {ns : List Nd} (h : Dw w W g a n cap Bt gp cp ps vN ns) (s : Int)
    (hown : w'.ownsRow w.heap.size 3 1 (.slice (some ⟨gq, 0, none⟩) (ps.length + 1) cq) (ps.length + 1) (ints ps ++ [.int .i64 s])) (hg : W.grownBy w' (some gp)) (hat : gp = gq ∨ gq = W.heap.size) :
    Box2 w' Bt 76 (.slice (some ⟨gp, 0, none⟩) ps.length cp) vN ∧ Dw w (w'.setCell ⟨Bt, 0, none⟩ (.slice (some ⟨gq, 0, none⟩) (ps.length + 1) cq)) g a n cap Bt gq cq (ps ++ [s]) vN ns ∧
      (∀ b xs, Row W b xs → b ≠ gp → b ≠ Bt → Row (w'.setCell ⟨Bt, 0, none⟩ (.slice (some ⟨gq, 0, none⟩) (ps.length + 1) cq)) b xs) := by
  obtain ⟨⟨cur, hcur⟩, hpl, hpt⟩ := owns_block h.par
  have hBne : Bt ≠ gp := h.box.ne hcur (by decide)
  have hRne : w.heap.size ≠ gp := h.res.ne hcur (by decide)
  have hlt := h.box.lt
  have hqB : gq ≠ Bt := by rcases hat with e | e <;> omega
  have hl := h.low
  have hh := h.high
  have b1 : Box2 w' Bt 76 (.slice (some ⟨gp, 0, none⟩) ps.length cp) vN := h.box.kept hg (by intro e; exact hBne (Option.some.inj e))
  have hs := Lib.grownBy_setCell w' Bt 0 (.slice (some ⟨gq, 0, none⟩) (ps.length + 1) cq)
  have g1 : w.grownBy w' (some g) := grown_then h.grown hg hpl
  have c1 : Cur w' g a n cap := Cur.on h.cur0 g1 h.cur hg (by omega)
  have g2 := grown_then g1 hs (by omega : w.heap.size ≤ Bt)
  refine ⟨b1, ⟨h.cur0, Cur.on h.cur0 g2 c1 hs (by omega), ?_, ?_, ?_, (h.res.kept hg (by intro e; exact hRne (Option.some.inj e))).kept hs (by intro e; have := Option.some.inj e; omega), g2, hl, hh, h.ne⟩, fun b xs hr h1 h2 => (hr.far hg (by intro e; exact h1 (Option.some.inj e))).far hs (by intro e; exact h2 (Option.some.inj e))⟩
  · have := b1.set0 (.slice (some ⟨gq, 0, none⟩) (ps.length + 1) cq)
    simpa using this
  · have hi : ints (ps ++ [s]) = ints ps ++ [.int .i64 s] := by simp [ints]
    rw [hi, List.length_append, List.length_singleton]
    exact hown.kept hs (.inr (by intro e; simp [Value.ownBlock] at e; exact hqB e))
  · exact (h.nod.kept hg (.inr (owns_apart h.nod hcur (by decide)))).kept hs (.inr h.ne)

/-- Behind a change of another block. -/
theorem Dw.other {w W W' : World} {g b : Nat} {a : Option Addr} {n cap Bt gp cp : Nat} {ps : List Int} {vN : Value} {ns : List Nd} (h : Dw w W g a n cap Bt gp cp ps vN ns) (hg : W.grownBy W' (some b)) (hb : w.heap.size < b) (h1 : b ≠ gp) (h2 : b ≠ Bt) (h3 : vN.ownBlock ≠ some b) : Dw w W' g a n cap Bt gp cp ps vN ns := by
  have hl := h.low
  have g1 : w.grownBy W' (some g) := grown_then h.grown hg (by omega)
  exact ⟨h.cur0, Cur.on h.cur0 g1 h.cur hg (by omega), h.box.kept hg (by intro e; exact h2 (Option.some.inj e).symm), h.par.kept hg (.inr (by intro e; simp [Value.ownBlock] at e; exact h1 e.symm)), h.nod.kept hg (.inr h3), h.res.kept hg (by intro e; have := Option.some.inj e; omega), g1, hl, h.high, h.ne⟩

theorem grown_opt {w W W' : World} {g : Nat} {row : Option Nat} (h : w.grownBy W (some g)) (hg : W.grownBy W' row) (hb : ∀ b, row = some b → w.heap.size ≤ b) : w.grownBy W' (some g) :=
  ⟨hg.os.trans h.os, hg.tape.trans h.tape, hg.output.trans h.output, Nat.le_trans h.size hg.size, fun i hi hne => (hg.block i (Nat.lt_of_lt_of_le hi h.size) (by intro e; have := hb i e.symm; omega)).trans (h.block i hi hne)⟩

/-- One more node: behind the append, and behind the store into the box. -/
theorem Dw.node {w W w' : World} {g : Nat} {a : Option Addr} {n cap Bt gp cp gq cq : Nat} {ps : List Int} {vN : Value} {ns : List Nd} (h : Dw w W g a n cap Bt gp cp ps vN ns) (nd : Nd)
    (hown : w'.ownsRow w.heap.size 158 4 (.slice (some ⟨gq, 0, none⟩) (ns.length + 1) cq) (ns.length + 1) (flat ns ++ nd.cells)) (hg : W.grownBy w' vN.ownBlock) (hat : vN.ownBlock = some gq ∨ gq = W.heap.size) :
    Box2 w' Bt 76 (.slice (some ⟨gp, 0, none⟩) ps.length cp) vN ∧ Dw w (w'.setCell ⟨Bt, 1, none⟩ (.slice (some ⟨gq, 0, none⟩) (ns.length + 1) cq)) g a n cap Bt gp cp ps (.slice (some ⟨gq, 0, none⟩) (ns.length + 1) cq) (ns ++ [nd]) ∧
      (∀ b xs cur, Row W b xs → W.heap[b]? = some (.cells cur 3 (0, 0)) → b ≠ Bt → Row (w'.setCell ⟨Bt, 1, none⟩ (.slice (some ⟨gq, 0, none⟩) (ns.length + 1) cq)) b xs ∧ (w'.setCell ⟨Bt, 1, none⟩ (.slice (some ⟨gq, 0, none⟩) (ns.length + 1) cq)).heap[b]? = some (.cells cur 3 (0, 0))) := by
  obtain ⟨⟨cur, hcur⟩, hpl, hpt⟩ := owns_block h.par
  have hlt := h.box.lt
  have hl := h.low
  have hh := h.high
  have hne := h.ne
  have hpn : vN.ownBlock ≠ some gp := owns_apart h.nod hcur (by decide)
  have hrn : ∀ b, vN.ownBlock = some b → w.heap.size ≤ b := fun b e => (h.nod.lt b e).1
  have hresn : some w.heap.size ≠ vN.ownBlock := fun e => owns_apart h.nod (gp := w.heap.size) h.res (by decide) e.symm
  have hqB : gq ≠ Bt := by
    rcases hat with e | e
    · intro e2; subst e2; exact hne e
    · omega
  have b1 : Box2 w' Bt 76 (.slice (some ⟨gp, 0, none⟩) ps.length cp) vN := h.box.kept hg (fun e => hne e.symm)
  have hs := Lib.grownBy_setCell w' Bt 1 (.slice (some ⟨gq, 0, none⟩) (ns.length + 1) cq)
  have g1 : w.grownBy w' (some g) := grown_opt h.grown hg hrn
  have c1 : Cur w' g a n cap := by
    cases hv : vN.ownBlock with
    | none => rw [hv] at hg; exact Cur.on (b := W.heap.size) h.cur0 g1 h.cur ⟨hg.os, hg.tape, hg.output, hg.size, fun i hi _ => hg.block i hi (by simp)⟩ (by have := h.grown.size; omega)
    | some k => rw [hv] at hg; exact Cur.on h.cur0 g1 h.cur hg (by have := hrn k hv; omega)
  have g2 := grown_then g1 hs (by omega : w.heap.size ≤ Bt)
  refine ⟨b1, ⟨h.cur0, Cur.on h.cur0 g2 c1 hs (by omega), b1.set1 _, ?_, ?_, (h.res.kept hg hresn).kept hs (by intro e; have := Option.some.inj e; omega), g2, hl, hh, by simp [Value.ownBlock]; exact hqB⟩, fun b xs cu hr hb h2 => ?_⟩
  · exact (h.par.kept hg (.inr (fun e => hpn (by rw [← e]; rfl)))).kept hs (.inr (by intro e; simp [Value.ownBlock] at e; exact h.box.ne hcur (by decide) e.symm))
  · have hi : flat (ns ++ [nd]) = flat ns ++ nd.cells := by simp [flat]
    rw [hi, List.length_append, List.length_singleton]
    exact hown.kept hs (.inr (by intro e; simp [Value.ownBlock] at e; exact hqB e))
  · have hbn : some b ≠ vN.ownBlock := fun e => owns_apart h.nod hb (by decide) e.symm
    have hbl := hr.lt
    refine ⟨(hr.far hg hbn).far hs (by intro e; exact h2 (Option.some.inj e)), ?_⟩
    rw [hs.block b (Nat.lt_of_lt_of_le hbl hg.size) (by intro e; exact h2 (Option.some.inj e)), hg.block b hbl hbn]
    exact hb

/-- What was drawn, laid into the result's box. -/
theorem Dw.done {w W : World} {g : Nat} {a : Option Addr} {n cap Bt gp cp : Nat} {ps : List Int} {vN : Value} {ns : List Nd} (h : Dw w W g a n cap Bt gp cp ps vN ns) :
    let F := (W.setCell ⟨w.heap.size, 0, none⟩ (.slice (some ⟨gp, 0, none⟩) ps.length cp)).setCell ⟨w.heap.size, 1, none⟩ vN
    Box2 F w.heap.size 76 (.slice (some ⟨gp, 0, none⟩) ps.length cp) vN ∧ F.ownsRow w.heap.size 3 1 (.slice (some ⟨gp, 0, none⟩) ps.length cp) ps.length (ints ps) ∧ F.ownsRow w.heap.size 158 4 vN ns.length (flat ns) ∧ Cur F g a n cap ∧ w.grownBy F (some g) := by
  intro F
  obtain ⟨⟨cur, hcur⟩, hpl, hpt⟩ := owns_block h.par
  have hl := h.low
  have hRne : w.heap.size ≠ gp := h.res.ne hcur (by decide)
  have hresn : vN.ownBlock ≠ some w.heap.size := owns_apart h.nod (gp := w.heap.size) h.res (by decide)
  have s1 := Lib.grownBy_setCell W w.heap.size 0 (.slice (some ⟨gp, 0, none⟩) ps.length cp)
  have s2 := Lib.grownBy_setCell (W.setCell ⟨w.heap.size, 0, none⟩ (.slice (some ⟨gp, 0, none⟩) ps.length cp)) w.heap.size 1 vN
  have g1 := grown_then h.grown s1 (Nat.le_refl _)
  have g2 := grown_then g1 s2 (Nat.le_refl _)
  have c1 := Cur.on h.cur0 g1 h.cur s1 (by omega)
  have hpn : (Value.slice (some ⟨gp, 0, none⟩) ps.length cp).ownBlock ≠ some w.heap.size := by intro e; simp [Value.ownBlock] at e; exact hRne e.symm
  exact ⟨(h.res.set0 _).set1 _, (h.par.kept s1 (.inr hpn)).kept s2 (.inr hpn), (h.nod.kept s1 (.inr hresn)).kept s2 (.inr hresn), Cur.on h.cur0 g2 c1 s2 (by omega), g2⟩
end Go.Proofs.Ytgpogglaffehcaa
