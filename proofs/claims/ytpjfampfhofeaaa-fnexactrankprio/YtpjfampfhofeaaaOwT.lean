/- Slices of the call's own, of elements of any size: their rows, stores into them, what keeps them, appends. -/
import Derived.Test.YtpjfampfhofeaaaAppS
import Derived.Test.YtpjfampfhofeaaaCmS
import Derived.Lib.BufferWrite
import Derived.Laws.OwnMore
namespace Go.Proofs.Ytpjfampfhofeaaa
open Go.ChangeShapes Go.WideShapes Go.ChangeAt Go.RowKit

/-- At the list of a plain region's operations. -/
theorem wplAppAny {P : Program} {w : World} {ops : Array Oper} {rest : List Oper} {o : Oper} {a : Act} {Q : Exit → Act → World → Prop} (hgd : o.guard = none) (k : Tmp) (hk : o.dst = some k) (s x : Operand) (t : TypeId)
    (ho : o.op = .call { callee := .builtin .append, args := #[s, x], argTypes := #[t, t] }) (base : Nat) (e : TypeId) (i : TypeInfo) (z : Value) (size bytes : Nat) (ht : P.underlying t = some (.slice e)) (hi : P.info? e = some i) (hz : i.zero = some z)
    (hsize : i.size = size) (hby : i.bytes = bytes) (hzs : z.cells.size = size) (hsz : 0 < size) (g n cap : Nat) (xs : List Value) (hs : a.eval s = .slice (some ⟨g, 0, none⟩) n cap) (hown : w.ownsRow base e size (.slice (some ⟨g, 0, none⟩) n cap) n xs)
    (p : Option Addr) (m c : Nat) (news : List Value) (hx : a.eval x = .slice p m c) (hl : news.length = m * size) (hr : Sq w p news) (h1 : ∀ u ∈ news, u.oneCell' = true) (h63 : n + m ≤ maxLen) (hbytes : (n + m) * bytes ≤ 140737488355328) (hbase : base ≤ w.heap.size)
    (h : ∀ g' cap' w', w'.ownsRow base e size (.slice (some ⟨g', 0, none⟩) (n + m) cap') (n + m) (xs ++ news) → w.grownBy w' (some g) → wpList P ops Q rest (a.put (some k) (.slice (some ⟨g', 0, none⟩) (n + m) cap')) w') :
    wpList P ops Q (o :: rest) a w := by
  refine wpList_plain hgd fun K hK => ?_
  rw [← hk] at h
  obtain ⟨g', cap', w', h1', h2, h3⟩ := run_append_sq (P := P) w base t o.type e i z size bytes ht hi hz hsize hby hzs hsz g n cap xs hown p m c news hl hr h1 h63 hbytes hbase
  unfold Oper.wp execOp
  simp only [ho, resolve, invoke, builtin, Sem.run_bind, Sem.run_pure, Result.andThen_ok, List.map_toArray, List.map_cons, List.map_nil, hs, hx, h1']
  exact hK _ _ (h g' cap' w' h2 h3)
theorem owsRow {w : World} {B n g cap size : Nat} {e : TypeId} {xs : List Value} (h : w.ownsRow B e size (.slice (some ⟨g, 0, none⟩) n cap) n xs) : Row w g xs ∧ B ≤ g ∧ n ≤ cap := by
  obtain ⟨hlen, h⟩ := h
  rcases h with ⟨h, _⟩ | ⟨g2, cap2, cur, e, hB, hg, hnc, _, hsz, hx⟩
  · cases h
  · cases e
    have hlt : g < w.heap.size := by
      rcases Nat.lt_or_ge g w.heap.size with h' | h'
      · exact h'
      · rw [Array.getElem?_eq_none h'] at hg; cases hg
    refine ⟨⟨fun i u hu => ?_, fun i => ?_, hlt⟩, hB, hnc⟩
    · rw [← hx] at hu
      have hi : cur.toList[i]? = some u := by
        rw [List.getElem?_take] at hu
        split at hu
        · exact hu
        · cases hu
      simp only [World.cell?, hg]
      simpa using hi
    · simp [World.frozen?, hg]
theorem grownSetCs {g : Nat} (vs : List Value) : ∀ {w : World} (m : Nat), w.grownBy (w.setCells g m vs) (some g) := by
  induction vs with
  | nil => intro w m; exact World.grownBy.refl _ _
  | cons v r ih => intro w m; exact (Lib.grownBy_setCell w g m v).trans (ih (m + 1))
theorem grownBelow {w w' : World} {r : Option Nat} (h : Below w.heap.size w w') : w.grownBy w' r := ⟨h.os, h.tape, h.output, h.size, fun k hk _ => h.block k hk⟩
theorem owsSet {B n g cap size : Nat} {e : TypeId} (vs : List Value) : ∀ {w : World} {xs : List Value} (m : Nat), w.ownsRow B e size (.slice (some ⟨g, 0, none⟩) n cap) n xs → m + vs.length ≤ xs.length → (w.setCells g m vs).ownsRow B e size (.slice (some ⟨g, 0, none⟩) n cap) n (Go.Proofs.Ytpjfampfhofeaaa.putL xs m vs) := by
  induction vs with
  | nil => intro w xs m h _; exact h
  | cons v r ih =>
    intro w xs m h hm
    simp only [List.length_cons] at hm
    exact ih (m + 1) (World.ownsRow.stored h m v).1 (by rw [List.length_set]; omega)
theorem owsBelow {w w' : World} {B n : Nat} {e : TypeId} {v : Value} {xs : List Value} {size : Nat} (h : w.ownsRow B e size v n xs) (hb : Below w.heap.size w w') : w'.ownsRow B e size v n xs := by
  obtain ⟨hlen, h⟩ := h
  refine ⟨hlen, ?_⟩
  rcases h with h | ⟨g, cap, cur, hv, hB, hg, r⟩
  · exact .inl h
  · refine .inr ⟨g, cap, cur, hv, hB, ?_, r⟩
    have hlt : g < w.heap.size := by
      rcases Nat.lt_or_ge g w.heap.size with h' | h'
      · exact h'
      · rw [Array.getElem?_eq_none h'] at hg; cases hg
    rw [hb.block g hlt]
    exact hg
theorem owsForm {w : World} {B n size : Nat} {t : TypeId} {v : Value} {xs : List Value} (h : w.ownsRow B t size v n xs) : ∃ a c, v = .slice a n c := by
  rcases h.2 with ⟨rfl, rfl⟩ | ⟨g, cap, _, rfl, _⟩
  · exact ⟨_, _, rfl⟩
  · exact ⟨_, _, rfl⟩
theorem owsMono {w : World} {B B' n size : Nat} {e : TypeId} {v : Value} {xs : List Value} (h : w.ownsRow B e size v n xs) (hb : B' ≤ B) : w.ownsRow B' e size v n xs :=
  ⟨h.1, h.2.elim .inl fun ⟨g, cap, cur, h1, h2, r⟩ => .inr ⟨g, cap, cur, h1, Nat.le_trans hb h2, r⟩⟩
end Go.Proofs.Ytpjfampfhofeaaa
