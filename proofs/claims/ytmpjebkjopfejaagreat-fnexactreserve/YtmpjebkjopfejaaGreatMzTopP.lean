/- The argument of a law that is a topology, opened. -/
import Derived.Test.YtmpjebkjopfejaaGreatMgRa
import Derived.ProofKit
import Derived.Lib.SmallJoins
import Derived.Deep.Slices
namespace Go.Proofs.YtmpjebkjopfejaaGreat
open Go.ChangeShapes Go.WideShapes Go.ChangeAt Go.RowKit Go.Joins Go.Deep

theorem cellsInt1 : Tryz.prog.cellsOf 3 = 1 := by kernel_rfl
theorem cellsVec3 : Tryz.prog.cellsOf 34 = 3 := by kernel_rfl
theorem cellsNode4 : Tryz.prog.cellsOf 116 = 4 := by kernel_rfl
theorem cellsTopo2 : Tryz.prog.cellsOf 25 = 2 := by kernel_rfl

set_option maxRecDepth 100000 in
theorem node_opened {H : Type} {enc : TypeId × Value → H} {W : World} {base fuel : Nat} {spare : Nat → Bool} {held : Bool} {cs : List Value} {x : DataW H × List MemPlace}
    (h : DataW.trod enc Tryz.prog W base spare held fuel 116 cs = some x) : ∃ n : Nd, cs = n.cells := by
  obtain ⟨y0, y1, k, _, hl, h0, h1⟩ := trod_struct2 Tryz.underlying116 h
  rw [cellsNode4] at hl
  match cs, hl with
  | [v0, v1, v2, v3], _ =>
    simp only [cellsInt1, cellsVec3] at h0 h1
    obtain ⟨l, e0, _, _⟩ := DataW.trod_int Tryz.underlying3 h0
    obtain ⟨xs, k2, _, _, hl2, hxl, hf⟩ := DataW.trod_struct Tryz.underlying34 h1
    match xs, hxl with
    | [x0, x1, x2], _ =>
      have g0 : DataW.trod enc Tryz.prog W base spare held k2 3 [v1] = some x0 := by simpa [cellsInt1] using hf 0 _ rfl
      have g1 : DataW.trod enc Tryz.prog W base spare held k2 3 [v2] = some x1 := by simpa [cellsInt1] using hf 1 _ rfl
      have g2 : DataW.trod enc Tryz.prog W base spare held k2 3 [v3] = some x2 := by simpa [cellsInt1] using hf 2 _ rfl
      obtain ⟨a, ea, _, _⟩ := DataW.trod_int Tryz.underlying3 g0
      obtain ⟨b, eb, _, _⟩ := DataW.trod_int Tryz.underlying3 g1
      obtain ⟨c, ec, _, _⟩ := DataW.trod_int Tryz.underlying3 g2
      simp at e0 ea eb ec
      subst e0 ea eb ec
      exact ⟨⟨l, a, b, c⟩, rfl⟩

/-- Numbers that came in. -/
theorem ints_opened {H : Type} {enc : TypeId × Value → H} {W : World} {fuel : Nat} {held : Bool} {v : Value} {x : DataW H × List MemPlace}
    (h : DataW.trod enc Tryz.prog W 0 (fun _ => true) held fuel 22 [v] = some x) : ∃ a xs cap, v = .slice a xs.length cap ∧ xs.length ≤ maxLen ∧ Sq W a (ints xs) := by
  rcases open_ints Tryz.underlying22 Tryz.underlying3 cellsInt1 h with ⟨hcs, _⟩ | ⟨a, len, cap, zs, hcs, _, hl, hm, hz, _, hcell, hwz⟩
  · simp at hcs
    subst hcs
    exact ⟨none, [], 0, rfl, Nat.zero_le _, ⟨fun i u hu => by simp [ints] at hu⟩⟩
  · simp at hcs
    subst hcs
    simp only [if_true] at hz
    have hlen : (zs.take len).length = len := by simp; omega
    refine ⟨some a, zs.take len, cap, by rw [hlen], by omega, ⟨fun i u hu => ?_⟩⟩
    have hi : i < len := by
      have := (List.getElem?_eq_some_iff.1 hu).1
      rw [ints_len, hlen] at this
      exact this
    have hc := hcell i (by omega)
    have hu' : u = .int .i64 (zs.getD i 0) := by
      rw [ints_at _ i (by omega)] at hu
      rw [← Option.some.inj hu, List.getElem_take]
      simp [List.getD, List.getElem?_eq_getElem (show i < zs.length by omega)]
    refine ⟨a, rfl, ?_, by rw [hu']; exact hc⟩
    have := World.block_lt_of_cell? _ _ hc
    rwa [block_add] at this

theorem exists_list {α : Type} (n : Nat) (P : Nat → α → Prop) (h : ∀ i, i < n → ∃ x, P i x) : ∃ xs : List α, xs.length = n ∧ ∀ i (hi : i < xs.length), P i xs[i] := by
  induction n with
  | zero => exact ⟨[], rfl, fun i hi => by simp at hi⟩
  | succ n ih =>
    obtain ⟨xs, hl, hx⟩ := ih (fun i hi => h i (by omega))
    obtain ⟨y, hy⟩ := h n (by omega)
    refine ⟨xs ++ [y], by simp [hl], fun i hi => ?_⟩
    by_cases e : i < xs.length
    · rw [List.getElem_append_left e]; exact hx i e
    · have e2 : i = xs.length := by simp at hi; omega
      subst e2
      rw [List.getElem_append_right (Nat.le_refl _)]
      simpa [hl] using hy

theorem add_add (p : Addr) (m k : Nat) : (p.add m).add k = p.add (m + k) := by
  unfold Addr.add
  by_cases hk : k = 0
  · subst hk; simp
  · by_cases hm : m = 0
    · subst hm; simp [hk]
    · simp [hk, hm, Nat.add_assoc]

set_option maxRecDepth 100000 in
/-- Nodes that came in. -/
theorem nodes_opened {H : Type} {enc : TypeId × Value → H} {W : World} {fuel : Nat} {held : Bool} {v : Value} {x : DataW H × List MemPlace}
    (h : DataW.trod enc Tryz.prog W 0 (fun _ => true) held fuel 23 [v] = some x) : ∃ a xs cap, v = .slice a xs.length cap ∧ xs.length ≤ maxLen ∧ Sq W a (flat xs) := by
  rcases open_slice Tryz.underlying23 h with ⟨hcs, _⟩ | ⟨a, len, cap, m, n, D, Pl, hcs, _, hl, hm, hmm, _, hx⟩
  · simp at hcs
    subst hcs
    exact ⟨none, [], 0, rfl, Nat.zero_le _, ⟨fun i u hu => by simp [flat] at hu⟩⟩
  · simp at hcs
    subst hcs
    simp only [if_true] at hmm
    have each : ∀ i, i < len → ∃ nd : Nd, ∀ k, k < 4 → W.cell? ((a.add (i * 4)).add k) = nd.cells[k]? := fun i hi => by
      obtain ⟨cs, h1, h2⟩ := hx i (by omega)
      rw [cellsNode4] at h1
      obtain ⟨nd, rfl⟩ := node_opened h2
      obtain ⟨_, _, hcell⟩ := World.cells?_some h1
      exact ⟨nd, fun k hk => by simpa using hcell k hk⟩
    obtain ⟨xs, hxl, hxs⟩ := exists_list len _ each
    refine ⟨some a, xs, cap, by rw [hxl], by omega, ⟨fun q u hu => ?_⟩⟩
    have hq : q < 4 * len := by
      have := (List.getElem?_eq_some_iff.1 hu).1
      rw [flat_len, hxl] at this
      exact this
    have hg := flat_get xs (q / 4) (q % 4) (by omega) (by omega)
    have hc := hxs (q / 4) (by omega) (q % 4) (by omega)
    rw [show q / 4 * 4 + q % 4 = q by omega, hu] at hg
    rw [add_add, show q / 4 * 4 + q % 4 = q by omega, ← hg] at hc
    refine ⟨a, rfl, ?_, hc⟩
    have := World.block_lt_of_cell? _ _ hc
    rwa [block_add] at this

set_option maxRecDepth 100000 in
/-- A topology that came in. -/
theorem topo_opened {H : Type} {enc : TypeId × Value → H} {W : World} {r : Reach} {b0 : Nat} {v : Value} {d : DataW H} {p : List MemPlace} (hv : Value.okWide Tryz.prog W r b0 25 v)
    (h : DataW.Trod enc Tryz.prog W 0 (fun _ => true) true 25 v d p) :
    ∃ a b c e ps ns, v = .agg #[.slice a (ps : List Int).length c, .slice b (ns : List Nd).length e] ∧ ps.length ≤ maxLen ∧ ns.length ≤ maxLen ∧ Sq W a (ints ps) ∧ Sq W b (flat ns) := by
  obtain ⟨v0, v1, y0, y1, n, rfl, _, _, h0, h1⟩ := open_agg2 Tryz.underlying25 (by kernel_rfl) cellsTopo2 hv h
  obtain ⟨a, ps, c, rfl, hp, hs⟩ := ints_opened h0
  obtain ⟨b, ns, e, rfl, hn, hs'⟩ := nodes_opened h1
  exact ⟨a, b, c, e, ps, ns, rfl, hp, hn, hs, hs'⟩
end Go.Proofs.YtmpjebkjopfejaaGreat
