/- A topology drawn, then changed in one place: what lies there. -/
import Derived.Test.YtcjamjfdkpgjkaaDrA
import Derived.Laws.OwnMore
namespace Go.Proofs.Ytcjamjfdkpgjkaa
open Go.ChangeShapes Go.WideShapes Go.ChangeAt Go.RowKit

/-- Behind l02Draw, and behind its box. -/
theorem Dw.begin {w w1 : World} {g : Nat} {a : Option Addr} {n cap gp cp : Nat} {ps : List Int} {vN : Value} {ns : List Nd} (h0 : Cur w g a n cap) (hres : Box2 w1 w.heap.size 26 (.slice none 0 0) (.slice none 0 0)) (hg : w.grownBy w1 (some g)) (hc : Cur w1 g a n cap)
    (hp : w1.ownsRow w.heap.size 3 1 (.slice (some ⟨gp, 0, none⟩) ps.length cp) ps.length (ints ps)) (hn : w1.ownsRow w.heap.size 35 4 vN ns.length (flat ns)) :
    Dw w (w1.alloc (.cells #[.slice (some ⟨gp, 0, none⟩) ps.length cp, vN] 26)) g a n cap w1.heap.size gp cp ps vN ns := by
  have hb := low_alloc w1 (.cells #[.slice (some ⟨gp, 0, none⟩) ps.length cp, vN] 26)
  refine ⟨h0, hc.below hb, Box2.new w1 _ _ _, owns_below hp hb, owns_below hn hb, hres.below hb, ⟨hb.os.trans hg.os, hb.tape.trans hg.tape, hb.output.trans hg.output, Nat.le_trans hg.size hb.size, fun i hi hne => (hb.block i (Nat.lt_of_lt_of_le hi hg.size)).trans (hg.block i hi hne)⟩, h0.lt, hres.lt, ?_⟩
  intro e
  have := (hn.lt _ e).2
  omega

theorem Dw.rowP {w W : World} {g : Nat} {a : Option Addr} {n cap Bt gp cp : Nat} {ps : List Int} {vN : Value} {ns : List Nd} (h : Dw w W g a n cap Bt gp cp ps vN ns) (hp : 1 ≤ ps.length) : Row W gp (ints ps) := by
  obtain ⟨g7, c7, hv7, _, hr7⟩ := row_of_owns h.par hp
  cases hv7
  exact hr7

/-- Behind a change of one parent. -/
theorem Dw.setPar {w W : World} {g : Nat} {a : Option Addr} {n cap Bt gp cp : Nat} {ps : List Int} {vN : Value} {ns : List Nd} (h : Dw w W g a n cap Bt gp cp ps vN ns) (i : Nat) (x : Int) :
    Dw w (W.setCell ⟨gp, i, none⟩ (.int .i64 x)) g a n cap Bt gp cp (ps.set i x) vN ns := by
  obtain ⟨⟨cur, hcur⟩, hpl, hpt⟩ := owns_block h.par
  have hl := h.low
  have hBne : Bt ≠ gp := h.box.ne hcur (by decide)
  have hRne : w.heap.size ≠ gp := h.res.ne hcur (by decide)
  have hs := Lib.grownBy_setCell W gp i (.int .i64 x)
  have g1 := grown_then h.grown hs hpl
  have hi2 : ints (ps.set i x) = (ints ps).set i (.int .i64 x) := by simp [ints, List.map_set]
  refine ⟨h.cur0, Cur.on h.cur0 g1 h.cur hs (by omega), ?_, ?_, h.nod.kept hs (.inr (owns_apart h.nod hcur (by decide))), h.res.kept hs (by intro e; exact hRne (Option.some.inj e)), g1, hl, h.high, h.ne⟩
  · rw [List.length_set]
    exact h.box.kept hs (by intro e; exact hBne (Option.some.inj e))
  · rw [List.length_set, hi2]
    exact (h.par.stored i (.int .i64 x)).1

/-- Behind a change of one cell of the first node. -/
theorem Dw.setNod {w W : World} {g : Nat} {a : Option Addr} {n cap Bt gp cp gN dN : Nat} {ps : List Int} {r : List Nd} {nd nd' : Nd} (h : Dw w W g a n cap Bt gp cp ps (.slice (some ⟨gN, 0, none⟩) (nd :: r).length dN) (nd :: r)) (j : Nat) (hj : j < 4) (x : Int) (hnd : nd'.cells = nd.cells.set j (.int .i64 x)) :
    Dw w (W.setCell ⟨gN, j, none⟩ (.int .i64 x)) g a n cap Bt gp cp ps (.slice (some ⟨gN, 0, none⟩) (nd' :: r).length dN) (nd' :: r) := by
  obtain ⟨⟨cur, hcur⟩, hpl, hpt⟩ := owns_block h.nod
  have hl := h.low
  have hBne : Bt ≠ gN := h.box.ne hcur (by decide)
  have hRne : w.heap.size ≠ gN := h.res.ne hcur (by decide)
  have hs := Lib.grownBy_setCell W gN j (.int .i64 x)
  have g1 := grown_then h.grown hs hpl
  have hf : flat (nd' :: r) = (flat (nd :: r)).set j (.int .i64 x) := by
    show nd'.cells ++ flat r = (nd.cells ++ flat r).set j _
    rw [List.set_append_left _ _ (by simpa [Nd.cells] using hj), hnd]
  refine ⟨h.cur0, Cur.on h.cur0 g1 h.cur hs (by omega), ?_, h.par.kept hs (.inr (owns_apart h.par hcur (by decide))), ?_, h.res.kept hs (by intro e; exact hRne (Option.some.inj e)), g1, hl, h.high, by intro e; simp [Value.ownBlock] at e; exact hBne e.symm⟩
  · exact h.box.kept hs (by intro e; exact hBne (Option.some.inj e))
  · rw [hf]
    exact (h.nod.stored j (.int .i64 x)).1

/-- The switches taken away, and what is left laid into the result's box. -/
theorem Dw.bare {w W : World} {g : Nat} {a : Option Addr} {n cap Bt gp cp : Nat} {ps : List Int} {vN : Value} {ns : List Nd} (h : Dw w W g a n cap Bt gp cp ps vN ns) :
    let V := W.setCell ⟨Bt, 0, none⟩ (.slice none 0 0)
    let F := (V.setCell ⟨w.heap.size, 0, none⟩ (.slice none 0 0)).setCell ⟨w.heap.size, 1, none⟩ vN
    Box2 V Bt 26 (.slice none 0 0) vN ∧ Box2 V w.heap.size 26 (.slice none 0 0) (.slice none 0 0) ∧ Box2 F w.heap.size 26 (.slice none 0 0) vN ∧ F.ownsRow w.heap.size 35 4 vN ns.length (flat ns) ∧ Cur F g a n cap ∧ w.grownBy F (some g) := by
  intro V F
  have hl := h.low
  have hh := h.high
  have hresn : vN.ownBlock ≠ some w.heap.size := owns_apart h.nod (gp := w.heap.size) h.res (by decide)
  have s0 := Lib.grownBy_setCell W Bt 0 (.slice none 0 0)
  have s1 := Lib.grownBy_setCell V w.heap.size 0 (.slice none 0 0)
  have s2 := Lib.grownBy_setCell (V.setCell ⟨w.heap.size, 0, none⟩ (.slice none 0 0)) w.heap.size 1 vN
  have g0 := grown_then h.grown s0 (by omega)
  have g1 := grown_then g0 s1 (Nat.le_refl _)
  have g2 := grown_then g1 s2 (Nat.le_refl _)
  have c0 := Cur.on h.cur0 g0 h.cur s0 (by omega)
  have c1 := Cur.on h.cur0 g1 c0 s1 (by omega)
  have r0 := h.res.kept s0 (by intro e; have := Option.some.inj e; omega)
  exact ⟨h.box.set0 _, r0, (r0.set0 _).set1 _, ((h.nod.kept s0 (.inr h.ne)).kept s1 (.inr hresn)).kept s2 (.inr hresn), Cur.on h.cur0 g2 c1 s2 (by omega), g2⟩

theorem Dw.cellN {w W : World} {g : Nat} {a : Option Addr} {n cap Bt gp cp gN dN : Nat} {ps : List Int} {ns : List Nd} (h : Dw w W g a n cap Bt gp cp ps (.slice (some ⟨gN, 0, none⟩) ns.length dN) ns) (hn : 0 < ns.length) (j : Nat) (hj : j < 4) : ∃ x : Int, W.cell? ⟨gN, j, none⟩ = some (.int .i64 x) := by
  have h1 := h.nod.cellAt j (by omega)
  rw [h1]
  clear h h1
  cases ns with
  | nil => simp at hn
  | cons nd r =>
    match j, hj with
    | 0, _ => exact ⟨nd.l, by simp [flat, Nd.cells]⟩
    | 1, _ => exact ⟨nd.a, by simp [flat, Nd.cells]⟩
    | 2, _ => exact ⟨nd.b, by simp [flat, Nd.cells]⟩
    | 3, _ => exact ⟨nd.c, by simp [flat, Nd.cells]⟩

theorem Dw.node0 {w W : World} {g : Nat} {a : Option Addr} {n cap Bt gp cp gN dN : Nat} {ps : List Int} {ns : List Nd} (h : Dw w W g a n cap Bt gp cp ps (.slice (some ⟨gN, 0, none⟩) ns.length dN) ns) (hn : 0 < ns.length) (x : Int) : ∃ ns' : List Nd, Hid (ns'.length = ns.length) ∧ Dw w (W.setCell ⟨gN, 0, none⟩ (.int .i64 x)) g a n cap Bt gp cp ps (.slice (some ⟨gN, 0, none⟩) ns'.length dN) ns' := by
  cases ns with
  | nil => simp at hn
  | cons nd r =>
    have h1 : (⟨x, nd.a, nd.b, nd.c⟩ :: r : List Nd).length = (nd :: r).length := rfl
    exact ⟨⟨x, nd.a, nd.b, nd.c⟩ :: r, h1, h.setNod 0 (by decide) x rfl⟩

theorem Dw.nodeCap {w W : World} {g : Nat} {a : Option Addr} {n cap Bt gp cp gN dN : Nat} {ps : List Int} {ns : List Nd} (h : Dw w W g a n cap Bt gp cp ps (.slice (some ⟨gN, 0, none⟩) ns.length dN) ns) (hn : 0 < ns.length) (x y z : Int) : ∃ ns' : List Nd, Hid (ns'.length = ns.length) ∧ Dw w (((W.setCell ⟨gN, 1, none⟩ (.int .i64 x)).setCell ⟨gN, 2, none⟩ (.int .i64 y)).setCell ⟨gN, 3, none⟩ (.int .i64 z)) g a n cap Bt gp cp ps (.slice (some ⟨gN, 0, none⟩) ns'.length dN) ns' := by
  cases ns with
  | nil => simp at hn
  | cons nd r =>
    have h1 : (⟨nd.l, x, y, z⟩ :: r : List Nd).length = (nd :: r).length := rfl
    have s1 := h.setNod (nd' := ⟨nd.l, x, nd.b, nd.c⟩) 1 (by decide) x rfl
    have s2 := s1.setNod (nd' := ⟨nd.l, x, y, nd.c⟩) 2 (by decide) y rfl
    exact ⟨⟨nd.l, x, y, z⟩ :: r, h1, s2.setNod 3 (by decide) z rfl⟩
end Go.Proofs.Ytcjamjfdkpgjkaa
