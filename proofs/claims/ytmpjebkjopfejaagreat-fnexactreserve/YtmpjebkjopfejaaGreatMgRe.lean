/- Whether a room is right: the specification and the program. -/
import Derived.Test.YtmpjebkjopfejaaGreatMgRb
import Derived.Test.YtmpjebkjopfejaaGreatMgRc
import Derived.Test.YtmpjebkjopfejaaGreatMzVecC
import Derived.Test.YtmpjebkjopfejaaGreatMzPrfB
import Derived.Deep.DeepCutAuto
namespace Go.Proofs.YtmpjebkjopfejaaGreat
open Go.RowKit

theorem kids_of (ps : List Int) (s : Int) : ∀ (k i : Nat), 1 ≤ i → i < k → ps[i]? = some s → (i : Int) ∈ kidsTo ps s k
  | 0, i, _, h, _ => by omega
  | k + 1, i, h1, h2, h3 => by
    unfold kidsTo
    by_cases e : i = k
    · subst e
      rw [if_pos ⟨h1, h3⟩]
      simp
    · have := kids_of ps s k i h1 (by omega) h3
      split
      · exact List.mem_append.2 (.inl this)
      · exact this

/-- A walk that doesn't fail: all are equally far. -/
theorem walk_same (lv : Int → Int) : ∀ (K : List Int) (i : Nat) (level : Int), 0 ≤ walkLv lv K i level →
    (∀ k ∈ K, 0 ≤ lv k ∧ walkLv lv K i level = lv k + 1) ∧ (0 < i → walkLv lv K i level = level + 1)
  | [], i, level, _ => ⟨fun k h => by simp at h, fun _ => by unfold walkLv; rfl⟩
  | k :: r, i, level, h => by
    unfold walkLv at h ⊢
    by_cases hc : lv k < 0 ∨ (0 < i ∧ lv k ≠ level)
    · rw [if_pos hc] at h; omega
    · rw [if_neg hc] at h ⊢
      obtain ⟨h1, h2⟩ := walk_same lv r (i + 1) (lv k) h
      have h3 := h2 (by omega)
      refine ⟨fun x hx => ?_, fun hi => ?_⟩
      · rcases List.mem_cons.1 hx with e | hx
        · subst e
          exact ⟨by apply Classical.byContradiction; intro hn; exact hc (.inl (by omega)), h3⟩
        · exact h1 x hx
      · rw [h3]
        have : lv k = level := by
          apply Classical.byContradiction
          intro hn
          exact hc (.inr ⟨hi, hn⟩)
        omega

/-- All equally far: one more. -/
theorem walk_const (lv : Int → Int) (c : Int) (hc : 0 ≤ c) : ∀ (K : List Int) (i : Nat) (level : Int), (∀ k ∈ K, lv k = c) → (0 < i → level = c) → (i = 0 → K ≠ []) → walkLv lv K i level = c + 1
  | [], i, level, _, h1, h2 => by
    unfold walkLv
    by_cases hi : i = 0
    · exact absurd rfl (h2 hi)
    · rw [h1 (by omega)]
  | k :: r, i, level, h, h1, h2 => by
    unfold walkLv
    have hk := h k (by simp)
    rw [if_neg (by rintro (h3 | ⟨h3, h4⟩); omega; exact h4 (by rw [hk, h1 h3]))]
    exact walk_const lv c hc r (i + 1) (lv k) (fun x hx => h x (by simp [hx])) (fun _ => hk) (fun h => by omega)

/-- The level of a switch, as far as there are switches. -/
def lvN (ps : List Int) (s : Int) : Int := lvF ps ps.length s

theorem lvN_eq {ps : List Int} (ht : treeB ps) (s : Nat) (hs : s < ps.length) : lvN ps s = walkLv (lvN ps) (kidsTo ps s ps.length) 0 (-1) := by
  unfold lvN
  obtain ⟨n, hn⟩ : ∃ n, ps.length = n + 1 := ⟨ps.length - 1, by omega⟩
  conv => lhs; rw [hn]
  rw [lvF]
  apply walk_congr
  intro k hk
  obtain ⟨i, rfl, hi1, hi2, hi3⟩ := kids_mem ps s _ k hk
  have := ht i s hi1 hi3
  exact lv_enough ht n ps.length i hi2 (by omega) (by omega)

/-- Where the top has a level, each switch has. -/
theorem lvN_all {ps : List Int} (ht : treeB ps) (h0 : 0 ≤ lvN ps 0) : ∀ (m j : Nat), j ≤ m → j < ps.length → 0 ≤ lvN ps j := by
  intro m
  induction m with
  | zero =>
    intro j hj _
    obtain rfl : j = 0 := by omega
    exact h0
  | succ m ih =>
    intro j hj hl
    by_cases e : j = 0
    · subst e; exact h0
    · have hx := ht j ps[j] (by omega) (List.getElem?_eq_getElem hl)
      obtain ⟨p, hp⟩ : ∃ p : Nat, ps[j] = p := ⟨ps[j].toNat, by omega⟩
      have hpl : p < j := by omega
      have h1 := ih p (by omega) (by omega)
      rw [lvN_eq ht p (by omega)] at h1
      exact ((walk_same (lvN ps) _ 0 (-1) h1).1 j (kids_of ps p ps.length j (by omega) hl (by rw [List.getElem?_eq_getElem hl, hp]))).1

theorem lvN_kid {ps : List Int} (ht : treeB ps) (h0 : 0 ≤ lvN ps 0) (p j : Nat) (hj1 : 1 ≤ j) (hj : j < ps.length) (hp : ps[j]? = some (p : Int)) : lvN ps p = lvN ps j + 1 := by
  have hx := ht j p hj1 hp
  have h1 := lvN_all ht h0 p p (Nat.le_refl _) (by omega)
  have h2 := h1
  rw [lvN_eq ht p (by omega)] at h2 ⊢
  exact ((walk_same (lvN ps) _ 0 (-1) h2).1 j (kids_of ps p ps.length j hj1 hj hp)).2

theorem lvN_leaf {ps : List Int} (ht : treeB ps) (h0 : 0 ≤ lvN ps 0) (p : Nat) (hp : p < ps.length) : lvN ps p = 0 ↔ kidsTo ps p ps.length = [] := by
  constructor
  · intro h
    cases hk : kidsTo ps p ps.length with
    | nil => rfl
    | cons k r =>
      exfalso
      obtain ⟨i, e, h1, h2, h3⟩ := kids_mem ps p ps.length k (by rw [hk]; simp)
      have := lvN_kid ht h0 p i h1 h2 h3
      have := lvN_all ht h0 i i (Nat.le_refl _) h2
      omega
  · intro h
    rw [lvN_eq ht p hp, h]
    unfold walkLv
    rfl

/-- The levels as they stand when the switches beyond s have been gone through. -/
structure LvAt (ps L : List Int) (s : Nat) : Prop where
  len : L.length = ps.length
  tree : ∀ (i : Nat) (x : Int), s < i → ps[i]? = some x → 0 ≤ x ∧ x < i
  kid : ∀ (i p : Nat), 1 ≤ i → s < i → ps[i]? = some (p : Int) → ∃ x y, L[i]? = some x ∧ L[p]? = some y ∧ y = x + 1
  none : ∀ (p : Nat) (y : Int), L[p]? = some y → (∀ i : Nat, 1 ≤ i → s < i → ps[i]? ≠ some (p : Int)) → y = 0
  pos : ∀ (p : Nat) (y : Int), L[p]? = some y → 0 ≤ y ∧ y ≤ ps.length - s

theorem LvAt.start (ps : List Int) (n : Nat) (h : ps.length = n + 1) : LvAt ps (List.replicate ps.length 0) n := by
  refine ⟨by simp, fun i x h1 h2 => ?_, fun i p _ h1 h2 => ?_, fun p y h1 _ => ?_, fun p y h1 => ?_⟩
  · have := (List.getElem?_eq_some_iff.1 h2).1; omega
  · have := (List.getElem?_eq_some_iff.1 h2).1; omega
  · obtain ⟨_, h2⟩ := List.getElem?_eq_some_iff.1 h1
    simpa using h2.symm
  · obtain ⟨_, h2⟩ := List.getElem?_eq_some_iff.1 h1
    have : y = 0 := by simpa using h2.symm
    omega

theorem LvAt.step {ps L : List Int} {s : Nat} (h : LvAt ps L (s + 1)) (p : Nat) (hp : ps[s + 1]? = some (p : Int)) (hlt : p < s + 1) (x y : Int) (hx : L[s + 1]? = some x) (hy : L[p]? = some y) (hok : ¬ (0 < y ∧ y ≠ x + 1)) : LvAt ps (L.set p (x + 1)) s := by
  have hpl : p < L.length := (List.getElem?_eq_some_iff.1 hy).1
  have hsl : s + 1 < L.length := (List.getElem?_eq_some_iff.1 hx).1
  have hlen := h.len
  refine ⟨by rw [List.length_set]; exact h.len, fun i z h1 h2 => ?_, fun i q h0 h1 h2 => ?_, fun q z h1 h2 => ?_, fun q z h1 => ?_⟩
  · by_cases e : i = s + 1
    · subst e
      rw [hp] at h2
      cases h2
      omega
    · exact h.tree i z (by omega) h2
  · by_cases e : i = s + 1
    · subst e
      rw [hp] at h2
      have e2 : p = q := by have := Option.some.inj h2; omega
      subst e2
      refine ⟨x, x + 1, ?_, List.getElem?_set_self hpl, rfl⟩
      rw [List.getElem?_set_ne (by omega)]
      exact hx
    · obtain ⟨x', y', h3, h4, h5⟩ := h.kid i q h0 (by omega) h2
      have hqi := (h.tree i q (by omega) h2).2
      by_cases e2 : q = p
      · subst e2
        rw [hy] at h4
        cases h4
        have hx' := (h.pos i x' h3).1
        have hyx : y = x + 1 := by
          apply Classical.byContradiction
          intro hn
          exact hok ⟨by omega, hn⟩
        refine ⟨x', x + 1, ?_, List.getElem?_set_self hpl, by omega⟩
        rw [List.getElem?_set_ne (by omega)]
        exact h3
      · refine ⟨x', y', ?_, ?_, h5⟩
        · rw [List.getElem?_set_ne (by omega)]
          exact h3
        · rw [List.getElem?_set_ne (by omega)]
          exact h4
  · by_cases e2 : q = p
    · subst e2
      exact absurd hp (h2 (s + 1) (by omega) (by omega))
    · rw [List.getElem?_set_ne (by omega)] at h1
      exact h.none q z h1 (fun i h3 h4 h5 => h2 i h3 (by omega) h5)
  · by_cases e2 : q = p
    · subst e2
      rw [List.getElem?_set_self hpl] at h1
      cases h1
      have := h.pos _ _ hx
      omega
    · rw [List.getElem?_set_ne (by omega)] at h1
      have := h.pos _ _ h1
      omega

theorem LvAt.isTree {ps L : List Int} (h : LvAt ps L 0) : treeB ps := fun i x h1 h2 => h.tree i x (by omega) h2

/-- What has been gone through is final. -/
theorem LvAt.final {ps L : List Int} {s : Nat} (h : LvAt ps L s) (ht : treeB ps) : ∀ (m i : Nat), ps.length ≤ i + m → s ≤ i → i < ps.length → L[i]? = some (lvN ps i) := by
  intro m
  induction m with
  | zero => intro i h1 _ h2; omega
  | succ m ih =>
    intro i h1 h2 h3
    have hl : i < L.length := by rw [h.len]; exact h3
    rw [List.getElem?_eq_getElem hl, lvN_eq ht i h3]
    congr 1
    cases hk : kidsTo ps i ps.length with
    | nil =>
      unfold walkLv
      rw [h.none i _ (List.getElem?_eq_getElem hl) (fun j hj1 hj2 hj3 => by
        have := kids_of ps i ps.length j hj1 (List.getElem?_eq_some_iff.1 hj3).1 hj3
        rw [hk] at this
        simp at this)]
      rfl
    | cons k r =>
      have key : ∀ z ∈ kidsTo ps i ps.length, lvN ps z + 1 = L[i] := fun z hz => by
        obtain ⟨j, rfl, hj1, hj2, hj3⟩ := kids_mem ps i ps.length z hz
        have hij := ht j i hj1 hj3
        obtain ⟨x, y, hx, hy, e⟩ := h.kid j i hj1 (by omega) hj3
        rw [ih j (by omega) (by omega) hj2] at hx
        rw [List.getElem?_eq_getElem hl] at hy
        rw [Option.some.inj hx, Option.some.inj hy, e]
      have hk0 := key k (by rw [hk]; simp)
      obtain ⟨j, rfl, hj1, hj2, hj3⟩ := kids_mem ps i ps.length k (by rw [hk]; simp)
      have hij := ht j i hj1 hj3
      have hp := (h.pos j _ (ih j (by omega) (by omega) hj2)).1
      rw [← hk]
      rw [walk_const (lvN ps) (lvN ps j) hp _ 0 (-1) (fun z hz => by have := key z hz; omega) (fun h => by omega) (fun _ => by rw [hk]; simp)]
      omega

/-- The parents make a right tree. -/
structure TreeOk (ps : List Int) : Prop where
  one : 1 ≤ ps.length
  few : ps.length ≤ 24
  top : ps[0]? = some 0
  tree : treeB ps
  level : 0 ≤ lvN ps 0

theorem LvAt.done {ps L : List Int} (h : LvAt ps L 0) (h1 : 1 ≤ ps.length) (h2 : ps.length ≤ 24) (h3 : ps[0]? = some 0) : TreeOk ps := by
  refine ⟨h1, h2, h3, h.isTree, ?_⟩
  have := h.final h.isTree ps.length 0 (by omega) (Nat.le_refl _) (by omega)
  exact (h.pos 0 _ this).1

theorem LvAt.bad {ps L : List Int} {s : Nat} (h : LvAt ps L (s + 1)) (p : Nat) (hp : ps[s + 1]? = some (p : Int)) (x y : Int) (hx : L[s + 1]? = some x) (hy : L[p]? = some y) (hbad : 0 < y ∧ y ≠ x + 1) : ¬ TreeOk ps := by
  intro t
  have hsl : s + 1 < ps.length := (List.getElem?_eq_some_iff.1 hp).1
  have hne : ¬ ∀ i : Nat, 1 ≤ i → s + 1 < i → ps[i]? ≠ some (p : Int) := fun hn => by
    have := h.none p y hy hn
    omega
  obtain ⟨i, hi1, hi2, hi3⟩ : ∃ i : Nat, 1 ≤ i ∧ s + 1 < i ∧ ps[i]? = some (p : Int) := by
    apply Classical.byContradiction
    intro hn
    exact hne (fun i a b c => hn ⟨i, a, b, c⟩)
  have hil := (List.getElem?_eq_some_iff.1 hi3).1
  obtain ⟨x', y', h3, h4, h5⟩ := h.kid i p hi1 hi2 hi3
  rw [hy] at h4
  cases h4
  have e1 := lvN_kid t.tree t.level p i hi1 hil hi3
  have e2 := lvN_kid t.tree t.level p (s + 1) (by omega) hsl hp
  have f1 := h.final t.tree ps.length i (by omega) (by omega) hil
  have f2 := h.final t.tree ps.length (s + 1) (by omega) (Nat.le_refl _) hsl
  rw [h3] at f1
  rw [hx] at f2
  have g1 := Option.some.inj f1
  have g2 := Option.some.inj f2
  omega
end Go.Proofs.YtmpjebkjopfejaaGreat

namespace Go.Proofs.YtmpjebkjopfejaaGreat
open Go.ChangeShapes Go.WideShapes Go.ChangeAt Go.RowKit

/-- 'make([]int, n)': zeros. -/
theorem make_zeros (n : Nat) (hn : n ≤ 1048576) (w : World) : (Instr.makeSlice 22 (.int .i64 (n : Int)) (.int .i64 (n : Int))).run Tryz.prog w = .ok (.slice (some ⟨w.heap.size, 0, none⟩) n n) (w.alloc (.cells (ints (List.replicate n 0)).toArray 3)) := by
  obtain ⟨i0, hi, hz0, hz1, hz2⟩ := info_parts infoInt
  have hZ : madeCells (Value.int .i64 0).cells (n * i0.size) = (ints (List.replicate n 0)).toArray := by
    rw [hz1]
    apply Array.ext
    · simp [madeCells, ints]
    · intro i h1 h2
      simp [madeCells, ints, Value.cells, Nat.mod_one]
  have h := run_make (P := Tryz.prog) (w := w) 22 3 i0 (.int .i64 0) Tryz.underlying22 hi hz0 .i64 .i64 (n : Int) (n : Int) (by omega) (Int.le_refl _) (by rw [hz2]; omega) (by omega)
  rw [← hZ]
  simpa using h

/-- What the walk over the levels answers. -/
def LvSays (w : World) (ps : List Int) (e : Ending) (w' : World) : Prop :=
  (e = .returned (.tuple #[.slice none 0 0, .bool false]) ∧ ¬ TreeOk ps ∧ Below w.heap.size w w') ∨
  (∃ g L, e = .returned (.tuple #[.slice (some ⟨g, 0, none⟩) ps.length ps.length, .bool true]) ∧ TreeOk ps ∧ L.length = ps.length ∧ (∀ i : Nat, i < ps.length → L[i]? = some (lvN ps i)) ∧ w.heap.size ≤ g ∧ Row w' g (ints L) ∧ Below w.heap.size w w')

theorem lv_no {w w' : World} {ps : List Int} {e : Ending} (he : e = .returned (.tuple #[.slice none 0 0, .bool false])) (h : ¬ TreeOk ps) (hb : Below w.heap.size w w') : LvSays w ps e w' := .inl ⟨he, h, hb⟩

theorem Row.drewN {w : World} {g : Nat} {xs : List Value} (h : Row w g xs) (m : Nat) : Row (w.drewN m) g xs := ⟨h.cell, h.free, h.lt⟩
theorem below_drewN {w W : World} (h : Below w.heap.size w W) (m : Nat) : Below w.heap.size w (W.drewN m) := below_then h ⟨rfl, rfl, rfl, Nat.le_refl _, fun _ _ => rfl⟩

theorem levelsOf_none (a : Option Addr) (c : Nat) (ps : List Int) (w : World) (h : ps.length < 1) : Calls Tryz.prog 106 #[.slice a ps.length c] w (LvSays w ps) := by
  have hi : (ps.length : Int) < 1 := by omega
  have HN : Hid (¬ TreeOk ps) := fun t => by have := t.one; omega
  clear h
  go_enter Tryz.func106, Tryz.ntmps106
  go_wp2_with fail
  go_ret2
  exact lv_no rfl HN.out (Below.refl _ _)

theorem levelsOf_many (a : Option Addr) (c : Nat) (ps : List Int) (w : World) (h : 24 < ps.length) : Calls Tryz.prog 106 #[.slice a ps.length c] w (LvSays w ps) := by
  have hi : ¬ (ps.length : Int) < 1 := by omega
  have hi' : 24 < (ps.length : Int) := by omega
  have HN : Hid (¬ TreeOk ps) := fun t => by have := t.few; omega
  clear h
  go_enter Tryz.func106, Tryz.ntmps106
  go_wp2_with fail
  go_ret2
  exact lv_no rfl HN.out (Below.refl _ _)

theorem levelsOf_top (a : Option Addr) (c : Nat) (ps : List Int) (w : World) (h : Sq w a (ints ps)) (h0 : 1 ≤ ps.length) (h1 : ps.length ≤ 24) (h3 : ps[0]? ≠ some 0) : Calls Tryz.prog 106 #[.slice a ps.length c] w (LvSays w ps) := by
  have hi : ¬ (ps.length : Int) < 1 := by omega
  have hi' : ¬ 24 < (ps.length : Int) := by omega
  have hi3 : (0 : Int) < (ps.length : Int) := by omega
  have HN : Hid (¬ TreeOk ps) := fun t => h3 t.top
  obtain ⟨p, rfl, hpb, hc⟩ := h.cell 0 _ (ints_at ps 0 h0)
  have hx : (ps[0] != 0) = true := by
    simp
    intro e
    apply h3
    rw [List.getElem?_eq_getElem h0, e]
  generalize ps[0] = x at hc hx
  rw [show p.add 0 = p from rfl] at hc
  clear h3 h
  go_enter Tryz.func106, Tryz.ntmps106
  go_wp2_with fail
  go_ret2
  exact lv_no rfl HN.out (Below.refl _ _)

set_option maxHeartbeats 2000000 in
theorem levelsOf_main (a : Option Addr) (c : Nat) (ps : List Int) (w : World) (h : Sq w a (ints ps)) (h0 : 1 ≤ ps.length) (h1 : ps.length ≤ 24) (h3 : ps[0]? = some 0) : Calls Tryz.prog 106 #[.slice a ps.length c] w (LvSays w ps) := by
  have hi : ¬ (ps.length : Int) < 1 := by omega
  have hi' : ¬ 24 < (ps.length : Int) := by omega
  have hi3 : (0 : Int) < (ps.length : Int) := by omega
  have HT : Hid (ps[0]? = some 0) := h3
  have H : Hid (Sq w a (ints ps)) := h
  obtain ⟨p, rfl, hpb, hc⟩ := h.cell 0 _ (ints_at ps 0 h0)
  have hx : ps[0] = 0 := by
    have := List.getElem?_eq_getElem h0
    rw [h3] at this
    exact (Option.some.inj this).symm
  rw [hx, show p.add 0 = p from rfl] at hc
  clear h3 h hx
  have hmk := make_zeros ps.length (by omega) w
  go_enter Tryz.func106, Tryz.ntmps106
  go_wp2_with fail
  go_loopw [5] (fun i wr => ∃ (k : Nat) (L : List Int), k < ps.length ∧ i = .int .i64 k ∧ LvAt ps L k ∧ Row wr w.heap.size (ints L) ∧ Below w.heap.size w wr) (fun i _ => (intOf i).toNat)
  case atStart => exact ⟨ps.length - 1, _, by omega, by go_num, LvAt.start ps (ps.length - 1) (by omega), row_fresh w _ 3, by go_grown⟩
  case round =>
    obtain ⟨k, L, hk, rfl, hat, hr, hb⟩ := hrel
    have HL : Hid (LvAt ps L k) := hat
    have HR : Hid (Row wr w.heap.size (ints L)) := hr
    have HB : Hid (Below w.heap.size w wr) := hb
    have hLl := hat.len
    clear hat hr hb hmk hc
    by_cases hlt : 0 < k
    · obtain ⟨s, hs⟩ : ∃ s, s + 1 = k := ⟨k - 1, by omega⟩
      have hsk : (s : Int) = k - 1 := by omega
      have HP : Hid (LvAt ps L (s + 1)) := by rw [hs]; exact HL.out
      have hi0 : (0 : Int) < (k : Int) := by omega
      have hi00 : (0 : Int) ≤ (k : Int) := by omega
      have hi1 : (k : Int) < (ps.length : Int) := by omega
      obtain ⟨p1, hpp, _, hc⟩ := (H.out.below HB.out).cell k _ (ints_at ps k hk)
      cases hpp
      have HX : Hid (ps[k]? = some ps[k]) := List.getElem?_eq_getElem hk
      generalize ps[k] = x at hc HX
      obtain ⟨z, hz⟩ : ∃ z, L[k]? = some z := ⟨_, List.getElem?_eq_getElem (by omega)⟩
      have HZ : Hid (L[k]? = some z) := hz
      obtain ⟨hz0, hz1⟩ := HL.out.pos _ _ hz
      have hwz : IntKind.i64.wrap (z + 1) = z + 1 := by rw [IntKind.wrap_i64]; omega
      have hcz := HR.out.cell k _ (by rw [ints_get, hz]; rfl)
      clear hz
      by_cases hx0 : x < 0
      · have HN : Hid (¬ TreeOk ps) := fun t => by have := t.tree k x (by omega) HX.out; omega
        go_wp2_with fail
        go_quiet (fail)
        go_wp2
        go_ret2
        exact lv_no rfl HN.out (below_then HB.out ⟨rfl, rfl, rfl, Nat.le_refl _, fun _ _ => rfl⟩)
      · have hd0 : decide (x < 0) = false := by simpa using hx0
        by_cases hx1 : (k : Int) ≤ x
        · have HN : Hid (¬ TreeOk ps) := fun t => by have := t.tree k x (by omega) HX.out; omega
          go_wp2_with fail
          go_quiet (fail)
          go_wp2
          go_ret2
          exact lv_no rfl HN.out (below_then HB.out ⟨rfl, rfl, rfl, Nat.le_refl _, fun _ _ => rfl⟩)
        · have hd1 : decide ((k : Int) ≤ x) = false := by simpa using hx1
          obtain ⟨q, rfl⟩ : ∃ q : Nat, x = q := ⟨x.toNat, by omega⟩
          have hd3 : decide (k ≤ q) = false := by simp; omega
          have hd4 : decide ((q : Int) < 0) = false := by simp
          clear hd1 hd0
          have hq0 : (0 : Int) ≤ (q : Int) := by omega
          have hq1 : (q : Int) < (ps.length : Int) := by omega
          obtain ⟨y, hy⟩ : ∃ y, L[q]? = some y := ⟨_, List.getElem?_eq_getElem (by omega)⟩
          have HY : Hid (L[q]? = some y) := hy
          have hyb := (HL.out.pos _ _ hy).1
          have hcy := HR.out.cell q _ (by rw [ints_get, hy]; rfl)
          have hfy := HR.out.free q
          clear hy
          by_cases hy0 : 0 < y
          · by_cases hyz : y = z + 1
            · have HL1 : Hid (LvAt ps (L.set q (z + 1)) s) := HP.out.step q (by rw [hs]; exact HX.out) (by omega) z y (by rw [hs]; exact HZ.out) HY.out (fun h => h.2 hyz)
              have hne : (y != z + 1) = false := by simpa using hyz
              clear hyz
              have HR1 : Hid (∀ m, Row ((wr.drewN m).setCell ⟨w.heap.size, q, none⟩ (.int .i64 (z + 1))) w.heap.size (ints (L.set q (z + 1)))) := fun m => by
                have := (HR.out.drewN m).set q (by rw [ints_len]; omega) (.int .i64 (z + 1))
                rw [ints, List.map_set]
                exact this
              have HB1 : Hid (∀ m, Below w.heap.size w ((wr.drewN m).setCell ⟨w.heap.size, q, none⟩ (.int .i64 (z + 1)))) := fun m => (below_drewN HB.out m).setCell (Nat.le_refl _) _
              go_wp2_with fail
              go_quiet (fail)
              go_wp2
              exact ⟨⟨s, _, by omega, by rw [hsk], HL1.out, HR1.out _, HB1.out _⟩, by simp [intOf]; omega⟩
            · have HN : Hid (¬ TreeOk ps) := HP.out.bad q (by rw [hs]; exact HX.out) z y (by rw [hs]; exact HZ.out) HY.out ⟨hy0, hyz⟩
              have hne : (y != z + 1) = true := by simpa using hyz
              go_wp2_with fail
              go_quiet (fail)
              go_wp2
              go_ret2
              exact lv_no rfl HN.out (below_then HB.out ⟨rfl, rfl, rfl, Nat.le_refl _, fun _ _ => rfl⟩)
          · obtain rfl : y = 0 := by omega
            have HL1 : Hid (LvAt ps (L.set q (z + 1)) s) := HP.out.step q (by rw [hs]; exact HX.out) (by omega) z 0 (by rw [hs]; exact HZ.out) HY.out (fun h => hy0 h.1)
            have HR1 : Hid (∀ m, Row ((wr.drewN m).setCell ⟨w.heap.size, q, none⟩ (.int .i64 (z + 1))) w.heap.size (ints (L.set q (z + 1)))) := fun m => by
              have := (HR.out.drewN m).set q (by rw [ints_len]; omega) (.int .i64 (z + 1))
              rw [ints, List.map_set]
              exact this
            have HB1 : Hid (∀ m, Below w.heap.size w ((wr.drewN m).setCell ⟨w.heap.size, q, none⟩ (.int .i64 (z + 1)))) := fun m => (below_drewN HB.out m).setCell (Nat.le_refl _) _
            go_wp2_with fail
            go_quiet (fail)
            go_wp2
            exact ⟨⟨s, _, by omega, by rw [hsk], HL1.out, HR1.out _, HB1.out _⟩, by simp [intOf]; omega⟩
    · obtain rfl : k = 0 := by omega
      go_wp2_with fail
      go_ret2
      exact .inr ⟨w.heap.size, L, rfl, HL.out.done h0 h1 HT.out, hLl, fun i hi => HL.out.final HL.out.isTree ps.length i (by omega) (Nat.zero_le _) hi, Nat.le_refl _, HR.out, HB.out⟩
end Go.Proofs.YtmpjebkjopfejaaGreat

namespace Go.Proofs.YtmpjebkjopfejaaGreat
open Go.ChangeShapes Go.WideShapes Go.ChangeAt Go.RowKit

theorem TopOk.treeOk {ps : List Int} {ns : List Nd} (t : TopOk ps ns) : TreeOk ps := ⟨t.one, t.few, t.top, t.tree, t.level⟩

theorem TreeOk.topOk {ps : List Int} {ns : List Nd} (t : TreeOk ps) (hn : ns.length ≤ 24) (h : ∀ n ∈ ns, 0 ≤ n.l ∧ n.l < ps.length ∧ lvN ps n.l = 0 ∧ vokB n.a n.b n.c = true) : TopOk ps ns :=
  ⟨t.one, t.few, hn, t.top, t.tree, fun n hm => by
    obtain ⟨h0, h1, h2, h3⟩ := h n hm
    obtain ⟨m, hm⟩ : ∃ m : Nat, n.l = m := ⟨n.l.toNat, by omega⟩
    rw [hm] at h2
    refine ⟨h0, h1, ?_, h3⟩
    rw [hm]
    exact (lvN_leaf t.tree t.level m (by omega)).1 h2, t.level⟩

theorem TopOk.leaf {ps : List Int} {ns : List Nd} (t : TopOk ps ns) (n : Nd) (hm : n ∈ ns) : lvN ps n.l = 0 := by
  obtain ⟨h0, h1, h2, _⟩ := t.node n hm
  obtain ⟨m, hm⟩ : ∃ m : Nat, n.l = m := ⟨n.l.toNat, by omega⟩
  rw [hm] at h2 ⊢
  exact (lvN_leaf t.tree t.level m (by omega)).2 h2

theorem levelsOf_c (a : Option Addr) (c : Nat) (ps : List Int) (w : World) (h : Sq w a (ints ps)) : Calls Tryz.prog 106 #[.slice a ps.length c] w (LvSays w ps) := by
  by_cases h0 : ps.length < 1
  · exact levelsOf_none a c ps w h0
  · by_cases h1 : 24 < ps.length
    · exact levelsOf_many a c ps w h1
    · by_cases h3 : ps[0]? = some 0
      · exact levelsOf_main a c ps w h (by omega) (by omega) h3
      · exact levelsOf_top a c ps w h (by omega) (by omega) h3

set_option maxHeartbeats 4000000 in
theorem implTopoOk_c (a b : Option Addr) (c d : Nat) (ps : List Int) (ns : List Nd) (hn : ns.length ≤ 1048576) (w : World) (h : Sq w a (ints ps)) (h' : Sq w b (flat ns)) :
    Calls Tryz.prog 83 #[.agg #[.slice a ps.length c, .slice b ns.length d]] w (Says w (TopOk ps ns)) := by
  have H : Hid (Sq w a (ints ps)) := h
  have H' : Hid (Sq w b (flat ns)) := h'
  clear h h'
  go_enter Tryz.func83, Tryz.ntmps83
  go_wp2_with fail
  generalize hV : w.alloc (.cells #[.slice a ps.length c, .slice b ns.length d] 40) = V
  have HA : Hid (Row V w.heap.size [.slice a ps.length c, .slice b ns.length d]) := by subst hV; exact row_fresh w [.slice a ps.length c, .slice b ns.length d] 40
  have HV : Hid (Below w.heap.size w V) := by subst hV; exact low_alloc _ _
  clear hV
  refine (levelsOf_c a c ps V (H.out.below HV.out)).mono ?_
  rintro e w1 (⟨rfl, hno, hb⟩ | ⟨g, L, rfl, hyes, hLl, hLv, hg, hr, hb⟩)
  · have HN : Hid (¬ TopOk ps ns) := fun t => hno t.treeOk
    have HB : Hid (Below V.heap.size V w1) := hb
    have t1 := (HA.out.below hb).cell 1 _ rfl
    clear hno hb
    go_wp2_with fail
    go_ret
    exact says_no rfl HN.out (below_then HV.out HB.out)
  · have HT : Hid (TreeOk ps) := hyes
    have HL : Hid (∀ i : Nat, i < ps.length → L[i]? = some (lvN ps i)) := hLv
    have HB : Hid (Below V.heap.size V w1) := hb
    have HR : Hid (Row w1 g (ints L)) := hr
    have hpl := hyes.few
    have t1 := (HA.out.below hb).cell 1 _ rfl
    clear hyes hLv hb hr
    by_cases h2 : 24 < ns.length
    · have hi2 : 24 < (ns.length : Int) := by omega
      have HN : Hid (¬ TopOk ps ns) := fun t => by have := t.nodes; omega
      go_wp2_with fail
      go_ret
      exact says_no rfl HN.out (below_then HV.out HB.out)
    · have hi2 : ¬ 24 < (ns.length : Int) := by omega
      go_wp2_with fail
      clear t1
      go_loopw [24] (fun i wq => ∃ j : Nat, j ≤ ns.length ∧ i = .int .i64 j ∧ (∀ n ∈ ns.take j, 0 ≤ n.l ∧ n.l < ps.length ∧ lvN ps n.l = 0 ∧ vokB n.a n.b n.c = true) ∧ Row wq g (ints L) ∧ Below V.heap.size V wq) (fun i _ => ns.length - (intOf i).toNat)
      case atStart => exact ⟨0, Nat.zero_le _, rfl, fun n h => by simp at h, HR.out, HB.out⟩
      case round =>
        obtain ⟨j, hj, rfl, hi5, hr, hb⟩ := hrel
        have HI : Hid (∀ n ∈ ns.take j, 0 ≤ n.l ∧ n.l < ps.length ∧ lvN ps n.l = 0 ∧ vokB n.a n.b n.c = true) := hi5
        have HB2 : Hid (Below V.heap.size V wr) := hb
        have HR2 : Hid (Row wr g (ints L)) := hr
        have r1 := (HA.out.below hb).cell 1 _ rfl
        have hsz : w.heap.size < wr.heap.size := (HA.out.below hb).lt
        have hne : w.heap.size ≠ wr.heap.size := by omega
        clear hi5 hb hr HR HB
        by_cases hlt2 : j < ns.length
        · have hj0 : (0 : Int) ≤ (j : Int) := by omega
          have hj1 : (j : Int) < (ns.length : Int) := by omega
          obtain ⟨p2, rfl, c0, c1, c2, c3⟩ := ((H'.out.below HV.out).below HB2.out).node j hlt2
          have HX : Hid (ns[j]? = some ns[j]) := List.getElem?_eq_getElem hlt2
          generalize ns[j] = n at c0 c1 c2 c3 HX
          have HMem : Hid (n ∈ ns) := List.mem_of_getElem? HX.out
          by_cases hn0 : n.l < 0
          · have HN : Hid (¬ TopOk ps ns) := fun t => by have := (t.node n HMem.out).1; omega
            go_wp2_with fail
            go_ret
            exact says_no rfl HN.out (behind_alloc (below_then HV.out HB2.out) _)
          · by_cases hn1 : (ps.length : Int) ≤ n.l
            · have HN : Hid (¬ TopOk ps ns) := fun t => by have := (t.node n HMem.out).2.1; omega
              go_wp2_with fail
              go_ret
              exact says_no rfl HN.out (behind_alloc (below_then HV.out HB2.out) _)
            · obtain ⟨m, hm⟩ : ∃ m : Nat, n.l = m := ⟨n.l.toNat, by omega⟩
              have hm0 : (0 : Int) ≤ (m : Int) := by omega
              have hm1 : (m : Int) < (ps.length : Int) := by omega
              have HM : Hid (n.l = m) := hm
              have hrc := HR2.out.cell m _ (by rw [ints_get, HL.out m (by omega)]; rfl)
              have hgne : g ≠ wr.heap.size := by have := HR2.out.lt; omega
              have hglt : g < wr.heap.size := HR2.out.lt
              rw [hm] at c0 hn0 hn1
              clear hm
              by_cases hz : lvN ps m = 0
              · have HZ : Hid (lvN ps m = 0) := hz
                rw [hz] at hrc
                clear hz
                go_wp2_with fail
                have HB3 : Hid (Below V.heap.size V (wr.alloc (.cells #[.int .i64 m, .int .i64 n.a, .int .i64 n.b, .int .i64 n.c] 113))) := behind_alloc HB2.out _
                have HR3 : Hid (Row (wr.alloc (.cells #[.int .i64 m, .int .i64 n.a, .int .i64 n.b, .int .i64 n.c] 113)) g (ints L)) := HR2.out.below (low_alloc _ _)
                generalize wr.alloc (.cells #[.int .i64 m, .int .i64 n.a, .int .i64 n.b, .int .i64 n.c] 113) = w3 at HB3 HR3
                clear r1 c0 c1 c2 c3 HB2 HR2 hrc
                refine (implVecOk_c n.a n.b n.c _).mono ?_
                rintro e w5 ⟨rfl, hb⟩
                have HB5 : Hid (Below V.heap.size V w5) := below_then HB3.out hb
                have HR5 : Hid (Row w5 g (ints L)) := HR3.out.below hb
                clear hb HB3 HR3
                cases hv : vokB n.a n.b n.c
                · have HN : Hid (¬ TopOk ps ns) := fun t => by
                    have h := (t.node n HMem.out).2.2.2
                    rw [hv] at h
                    cases h
                  clear hv
                  go_wp2_with fail
                  go_ret
                  exact says_no rfl HN.out (below_then HV.out HB5.out)
                · have HI1 : Hid (∀ n ∈ ns.take (j + 1), 0 ≤ n.l ∧ n.l < ps.length ∧ lvN ps n.l = 0 ∧ vokB n.a n.b n.c = true) := fun y hy => by
                    rw [List.take_add_one, HX.out, Option.toList_some] at hy
                    rcases List.mem_append.1 hy with hy | hy
                    · exact HI.out y hy
                    · have e := List.mem_singleton.1 hy
                      subst e
                      rw [HM.out]
                      exact ⟨by omega, by omega, HZ.out, hv⟩
                  clear hv
                  go_wp2_with fail
                  go_roundw
                  case rel => exact ⟨j + 1, by omega, by go_num, HI1.out, HR5.out, HB5.out⟩
                  case measure => simp [intOf]; omega
              · have HN : Hid (¬ TopOk ps ns) := fun t => by
                  have h := t.leaf n HMem.out
                  rw [HM.out] at h
                  exact hz h
                have hz' : (lvN ps m != 0) = true := by simpa using hz
                generalize lvN ps m = z at hrc hz'
                clear hz
                go_wp2_with fail
                go_ret
                exact says_no rfl HN.out (behind_alloc (below_then HV.out HB2.out) _)
        · have HAll : Hid (∀ n ∈ ns, 0 ≤ n.l ∧ n.l < ps.length ∧ lvN ps n.l = 0 ∧ vokB n.a n.b n.c = true) := fun n hn => HI.out n (by rw [List.take_of_length_le (by omega)]; exact hn)
          have HY : Hid (TopOk ps ns) := HT.out.topOk (by omega) HAll.out
          go_wp2_with fail
          go_ret
          exact says_yes rfl HY.out (below_then HV.out HB2.out)


/-- What 'Level' answers. -/
noncomputable def levelR (ps : List Int) (ns : List Nd) (s : Int) : Int := open Classical in if SwOk ps ns s then lvN ps s else -1


end Go.Proofs.YtmpjebkjopfejaaGreat

namespace Go.Proofs.YtmpjebkjopfejaaGreat
open Go.ChangeShapes Go.WideShapes Go.ChangeAt Go.RowKit

/-- A right room. -/
structure ROk (R : Rm) : Prop where
  topo : TopOk R.ps R.ns
  ups : R.up.length = R.ns.length
  profs : R.pss.length = R.ns.length
  lics : POk R.lic
  each : ∀ ns ∈ R.pss, POk ns

set_option maxHeartbeats 4000000 in
theorem implRoomOk_c (A : Ra) (R : Rm) (hs : RSmall R) (w : World) (h : RAt w A R) :
    Calls Tryz.prog 59 #[.agg #[.slice A.aP R.ps.length A.cP, .slice A.aN R.ns.length A.cN, .slice A.aU R.up.length A.cU, .slice A.aQ R.pss.length A.cQ, .slice A.aL R.lic.length A.cL]] w (Says w (ROk R)) := by
  have H : Hid (RAt w A R) := h
  have HM : Hid (RSmall R) := hs
  have hq := hs.q
  have hu := hs.u
  have hn := hs.n
  clear h hs
  go_enter Tryz.func59, Tryz.ntmps59
  go_wp2_with fail
  have HA0 : Hid (Row (w.alloc (.cells #[.slice A.aP R.ps.length A.cP, .slice A.aN R.ns.length A.cN, .slice A.aU R.up.length A.cU, .slice A.aQ R.pss.length A.cQ, .slice A.aL R.lic.length A.cL] 46)) w.heap.size [.slice A.aP R.ps.length A.cP, .slice A.aN R.ns.length A.cN, .slice A.aU R.up.length A.cU, .slice A.aQ R.pss.length A.cQ, .slice A.aL R.lic.length A.cL]) := row_fresh w [.slice A.aP R.ps.length A.cP, .slice A.aN R.ns.length A.cN, .slice A.aU R.up.length A.cU, .slice A.aQ R.pss.length A.cQ, .slice A.aL R.lic.length A.cL] 46
  have HB0 : Hid (Below w.heap.size w (w.alloc (.cells #[.slice A.aP R.ps.length A.cP, .slice A.aN R.ns.length A.cN, .slice A.aU R.up.length A.cU, .slice A.aQ R.pss.length A.cQ, .slice A.aL R.lic.length A.cL] 46))) := low_alloc _ _
  generalize w.alloc (.cells #[.slice A.aP R.ps.length A.cP, .slice A.aN R.ns.length A.cN, .slice A.aU R.up.length A.cU, .slice A.aQ R.pss.length A.cQ, .slice A.aL R.lic.length A.cL] 46) = w0 at *
  refine (implTopoOk_c A.aP A.aN A.cP A.cN R.ps R.ns HM.out.n _ (H.out.sP.below HB0.out) (H.out.sN.below HB0.out)).mono ?_
  rintro e w1 ⟨k, rfl, hk, hb⟩
  have HA1 : Hid (Row w1 w.heap.size [.slice A.aP R.ps.length A.cP, .slice A.aN R.ns.length A.cN, .slice A.aU R.up.length A.cU, .slice A.aQ R.pss.length A.cQ, .slice A.aL R.lic.length A.cL]) := HA0.out.below hb
  have HB1 : Hid (Below w.heap.size w w1) := below_then HB0.out hb
  have HK : Hid (k = true ↔ TopOk R.ps R.ns) := hk
  clear hb hk HA0 HB0
  have a1 := HA1.out.cell 1 _ rfl
  have a2 := HA1.out.cell 2 _ rfl
  have a3 := HA1.out.cell 3 _ rfl
  have a4 := HA1.out.cell 4 _ rfl
  cases k
  · have HN : Hid (¬ ROk R) := fun h => by have := HK.out.2 h.topo; cases this
    clear HK
    go_wp2_with fail
    go_ret
    exact says_no rfl HN.out HB1.out
  · have HT : Hid (TopOk R.ps R.ns) := HK.out.1 rfl
    clear HK
    by_cases hul : R.up.length = R.ns.length
    · have HU : Hid (R.up.length = R.ns.length) := hul
      have hui : ((R.up.length : Int) == (R.ns.length : Int)) = true := by simp [hul]
      have huj : ((R.up.length : Int) != (R.ns.length : Int)) = false := by simp [hul]
      by_cases hpl : R.pss.length = R.ns.length
      · have HP : Hid (R.pss.length = R.ns.length) := hpl
        have hpi : ((R.pss.length : Int) == (R.ns.length : Int)) = true := by simp [hpl]
        have hpj : ((R.pss.length : Int) != (R.ns.length : Int)) = false := by simp [hpl]
        clear hul hpl
        go_wp2_with fail
        refine (implProfOk_c A.aL A.cL R.lic _ (H.out.sL.below HB1.out)).mono ?_
        rintro e w2 ⟨k, rfl, hk, hb⟩
        have HA2 : Hid (Row w2 w.heap.size [.slice A.aP R.ps.length A.cP, .slice A.aN R.ns.length A.cN, .slice A.aU R.up.length A.cU, .slice A.aQ R.pss.length A.cQ, .slice A.aL R.lic.length A.cL]) := HA1.out.below hb
        have HB2 : Hid (Below w.heap.size w w2) := below_then HB1.out hb
        have HK : Hid (k = true ↔ POk R.lic) := hk
        clear hb hk HA1 HB1 a1 a2 a3 a4 hui huj hpi hpj
        have a3 := HA2.out.cell 3 _ rfl
        cases k
        · have HN : Hid (¬ ROk R) := fun h => by have := HK.out.2 h.lics; cases this
          clear HK
          go_wp2_with fail
          go_ret
          exact says_no rfl HN.out HB2.out
        · have HLi : Hid (POk R.lic) := HK.out.1 rfl
          clear HK
          go_wp2_with fail
          clear a3
          go_loopw [37] (fun i wr => ∃ j : Nat, j ≤ R.pss.length ∧ i = .int .i64 j ∧ (∀ k ns, k < j → R.pss[k]? = some ns → POk ns) ∧ Below w.heap.size w wr) (fun i _ => R.pss.length - (intOf i).toNat)
          case atStart => exact ⟨0, Nat.zero_le _, rfl, fun k ns hk => by omega, HB2.out⟩
          case round =>
            obtain ⟨j, hj, rfl, hall, hb⟩ := hrel
            have HAl : Hid (∀ k ns, k < j → R.pss[k]? = some ns → POk ns) := hall
            have HB : Hid (Below w.heap.size w wr) := hb
            clear hall hb HB2 HA2
            by_cases hlt : j < R.pss.length
            · have hi0 : (0 : Int) ≤ (j : Int) := by omega
              have hi1 : (j : Int) < (R.pss.length : Int) := by omega
              have HE : Hid (R.pss[j]? = some R.pss[j]) := List.getElem?_eq_getElem hlt
              generalize R.pss[j] = ns at HE
              obtain ⟨p, q, c, hp, hpl, hc, hsq⟩ := (H.out.sQ.below HB.out).here j ns HE.out
              rw [hp]
              have HQ : Hid (Sq wr q (flat ns)) := hsq
              clear hsq
              go_wp2_with fail
              refine (implProfOk_c q c ns _ (HQ.out.below (low_alloc _ _))).mono ?_
              rintro e w5 ⟨k, rfl, hk, hb⟩
              have HB5 : Hid (Below w.heap.size w w5) := below_then (behind_alloc HB.out _) hb
              have HK : Hid (k = true ↔ POk ns) := hk
              clear hb hk hc
              cases k
              · have HN : Hid (¬ ROk R) := fun h => by have := HK.out.2 (h.each ns (List.mem_of_getElem? HE.out)); cases this
                clear HK
                go_wp2_with fail
                go_ret
                exact says_no rfl HN.out HB5.out
              · have HAn : Hid (∀ k ms, k < j + 1 → R.pss[k]? = some ms → POk ms) := fun k ms hk hm => by
                  by_cases e : k = j
                  · subst e
                    rw [HE.out] at hm
                    cases hm
                    exact HK.out.1 rfl
                  · exact HAl.out k ms (by omega) hm
                clear HK
                go_wp2_with fail
                exact ⟨⟨j + 1, by omega, by go_num, HAn.out, HB5.out⟩, by simp [intOf]; omega⟩
            · have HY : Hid (ROk R) := ⟨HT.out, HU.out, HP.out, HLi.out, fun ns hns => by
                obtain ⟨i, hi⟩ := List.getElem?_of_mem hns
                exact HAl.out i ns (by have := (List.getElem?_eq_some_iff.1 hi).1; omega) hi⟩
              go_wp2_with fail
              go_ret
              exact says_yes rfl HY.out HB.out
      · have HN : Hid (¬ ROk R) := fun h => hpl h.profs
        have hpi : ((R.pss.length : Int) == (R.ns.length : Int)) = false := by simp; omega
        have hpj : ((R.pss.length : Int) != (R.ns.length : Int)) = true := by simp; omega
        clear hul hpl
        go_wp2_with fail
        go_ret
        exact says_no rfl HN.out HB1.out
    · have HN : Hid (¬ ROk R) := fun h => hul h.ups
      have hui : ((R.up.length : Int) == (R.ns.length : Int)) = false := by simp; omega
      have huj : ((R.up.length : Int) != (R.ns.length : Int)) = true := by simp; omega
      clear hul
      go_wp2_with fail
      go_ret
      exact says_no rfl HN.out HB1.out
set_option maxHeartbeats 4000000 in
theorem specRoomOk_c (A : Ra) (R : Rm) (hs : RSmall R) (w : World) (h : RAt w A R) :
    Calls Tryz.prog 50 #[.agg #[.slice A.aP R.ps.length A.cP, .slice A.aN R.ns.length A.cN, .slice A.aU R.up.length A.cU, .slice A.aQ R.pss.length A.cQ, .slice A.aL R.lic.length A.cL]] w (Says w (ROk R)) := by
  have H : Hid (RAt w A R) := h
  have HM : Hid (RSmall R) := hs
  have hq := hs.q
  have hu := hs.u
  have hn := hs.n
  clear h hs
  go_enter Tryz.func50, Tryz.ntmps50
  go_wp2_with fail
  have HA0 : Hid (Row (w.alloc (.cells #[.slice A.aP R.ps.length A.cP, .slice A.aN R.ns.length A.cN, .slice A.aU R.up.length A.cU, .slice A.aQ R.pss.length A.cQ, .slice A.aL R.lic.length A.cL] 46)) w.heap.size [.slice A.aP R.ps.length A.cP, .slice A.aN R.ns.length A.cN, .slice A.aU R.up.length A.cU, .slice A.aQ R.pss.length A.cQ, .slice A.aL R.lic.length A.cL]) := row_fresh w [.slice A.aP R.ps.length A.cP, .slice A.aN R.ns.length A.cN, .slice A.aU R.up.length A.cU, .slice A.aQ R.pss.length A.cQ, .slice A.aL R.lic.length A.cL] 46
  have HB0 : Hid (Below w.heap.size w (w.alloc (.cells #[.slice A.aP R.ps.length A.cP, .slice A.aN R.ns.length A.cN, .slice A.aU R.up.length A.cU, .slice A.aQ R.pss.length A.cQ, .slice A.aL R.lic.length A.cL] 46))) := low_alloc _ _
  generalize w.alloc (.cells #[.slice A.aP R.ps.length A.cP, .slice A.aN R.ns.length A.cN, .slice A.aU R.up.length A.cU, .slice A.aQ R.pss.length A.cQ, .slice A.aL R.lic.length A.cL] 46) = w0 at *
  refine (specTopoOk_c A.aP A.aN A.cP A.cN R.ps R.ns HM.out.p HM.out.n _ (H.out.sP.below HB0.out) (H.out.sN.below HB0.out)).mono ?_
  rintro e w1 ⟨k, rfl, hk, hb⟩
  have HA1 : Hid (Row w1 w.heap.size [.slice A.aP R.ps.length A.cP, .slice A.aN R.ns.length A.cN, .slice A.aU R.up.length A.cU, .slice A.aQ R.pss.length A.cQ, .slice A.aL R.lic.length A.cL]) := HA0.out.below hb
  have HB1 : Hid (Below w.heap.size w w1) := below_then HB0.out hb
  have HK : Hid (k = true ↔ TopOk R.ps R.ns) := hk
  clear hb hk HA0 HB0
  have a1 := HA1.out.cell 1 _ rfl
  have a2 := HA1.out.cell 2 _ rfl
  have a3 := HA1.out.cell 3 _ rfl
  have a4 := HA1.out.cell 4 _ rfl
  cases k
  · have HN : Hid (¬ ROk R) := fun h => by have := HK.out.2 h.topo; cases this
    clear HK
    go_wp2_with fail
    go_ret
    exact says_no rfl HN.out HB1.out
  · have HT : Hid (TopOk R.ps R.ns) := HK.out.1 rfl
    clear HK
    by_cases hul : R.up.length = R.ns.length
    · have HU : Hid (R.up.length = R.ns.length) := hul
      have hui : ((R.up.length : Int) == (R.ns.length : Int)) = true := by simp [hul]
      have huj : ((R.up.length : Int) != (R.ns.length : Int)) = false := by simp [hul]
      by_cases hpl : R.pss.length = R.ns.length
      · have HP : Hid (R.pss.length = R.ns.length) := hpl
        have hpi : ((R.pss.length : Int) == (R.ns.length : Int)) = true := by simp [hpl]
        have hpj : ((R.pss.length : Int) != (R.ns.length : Int)) = false := by simp [hpl]
        clear hul hpl
        go_wp2_with fail
        refine (specProfOk_c A.aL A.cL R.lic _ (H.out.sL.below HB1.out)).mono ?_
        rintro e w2 ⟨k, rfl, hk, hb⟩
        have HA2 : Hid (Row w2 w.heap.size [.slice A.aP R.ps.length A.cP, .slice A.aN R.ns.length A.cN, .slice A.aU R.up.length A.cU, .slice A.aQ R.pss.length A.cQ, .slice A.aL R.lic.length A.cL]) := HA1.out.below hb
        have HB2 : Hid (Below w.heap.size w w2) := below_then HB1.out hb
        have HK : Hid (k = true ↔ POk R.lic) := hk
        clear hb hk HA1 HB1 a1 a2 a3 a4 hui huj hpi hpj
        have a3 := HA2.out.cell 3 _ rfl
        cases k
        · have HN : Hid (¬ ROk R) := fun h => by have := HK.out.2 h.lics; cases this
          clear HK
          go_wp2_with fail
          go_ret
          exact says_no rfl HN.out HB2.out
        · have HLi : Hid (POk R.lic) := HK.out.1 rfl
          clear HK
          go_wp2_with fail
          clear a3
          go_loopw [38] (fun i wr => ∃ j : Nat, j ≤ R.pss.length ∧ i = .int .i64 j ∧ (∀ k ns, k < j → R.pss[k]? = some ns → POk ns) ∧ Below w.heap.size w wr) (fun i _ => R.pss.length - (intOf i).toNat)
          case atStart => exact ⟨0, Nat.zero_le _, rfl, fun k ns hk => by omega, HB2.out⟩
          case round =>
            obtain ⟨j, hj, rfl, hall, hb⟩ := hrel
            have HAl : Hid (∀ k ns, k < j → R.pss[k]? = some ns → POk ns) := hall
            have HB : Hid (Below w.heap.size w wr) := hb
            clear hall hb HB2 HA2
            by_cases hlt : j < R.pss.length
            · have hi0 : (0 : Int) ≤ (j : Int) := by omega
              have hi1 : (j : Int) < (R.pss.length : Int) := by omega
              have HE : Hid (R.pss[j]? = some R.pss[j]) := List.getElem?_eq_getElem hlt
              generalize R.pss[j] = ns at HE
              obtain ⟨p, q, c, hp, hpl, hc, hsq⟩ := (H.out.sQ.below HB.out).here j ns HE.out
              rw [hp]
              have HQ : Hid (Sq wr q (flat ns)) := hsq
              clear hsq
              go_wp2_with fail
              refine (specProfOk_c q c ns _ (HQ.out.below (low_alloc _ _))).mono ?_
              rintro e w5 ⟨k, rfl, hk, hb⟩
              have HB5 : Hid (Below w.heap.size w w5) := below_then (behind_alloc HB.out _) hb
              have HK : Hid (k = true ↔ POk ns) := hk
              clear hb hk hc
              cases k
              · have HN : Hid (¬ ROk R) := fun h => by have := HK.out.2 (h.each ns (List.mem_of_getElem? HE.out)); cases this
                clear HK
                go_wp2_with fail
                go_ret
                exact says_no rfl HN.out HB5.out
              · have HAn : Hid (∀ k ms, k < j + 1 → R.pss[k]? = some ms → POk ms) := fun k ms hk hm => by
                  by_cases e : k = j
                  · subst e
                    rw [HE.out] at hm
                    cases hm
                    exact HK.out.1 rfl
                  · exact HAl.out k ms (by omega) hm
                clear HK
                go_wp2_with fail
                exact ⟨⟨j + 1, by omega, by go_num, HAn.out, HB5.out⟩, by simp [intOf]; omega⟩
            · have HY : Hid (ROk R) := ⟨HT.out, HU.out, HP.out, HLi.out, fun ns hns => by
                obtain ⟨i, hi⟩ := List.getElem?_of_mem hns
                exact HAl.out i ns (by have := (List.getElem?_eq_some_iff.1 hi).1; omega) hi⟩
              go_wp2_with fail
              go_ret
              exact says_yes rfl HY.out HB.out
      · have HN : Hid (¬ ROk R) := fun h => hpl h.profs
        have hpi : ((R.pss.length : Int) == (R.ns.length : Int)) = false := by simp; omega
        have hpj : ((R.pss.length : Int) != (R.ns.length : Int)) = true := by simp; omega
        clear hul hpl
        go_wp2_with fail
        go_ret
        exact says_no rfl HN.out HB1.out
    · have HN : Hid (¬ ROk R) := fun h => hul h.ups
      have hui : ((R.up.length : Int) == (R.ns.length : Int)) = false := by simp; omega
      have huj : ((R.up.length : Int) != (R.ns.length : Int)) = true := by simp; omega
      clear hul
      go_wp2_with fail
      go_ret
      exact says_no rfl HN.out HB1.out
end Go.Proofs.YtmpjebkjopfejaaGreat
