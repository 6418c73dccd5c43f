/- Answers that are lists of numbers: they own their memory; marked and found marked. -/
import Derived.Test.YtmpjebkjopfejaaGreatMgRd
import Derived.Test.YtmpjebkjopfejaaGreatMgRc
namespace Go.Proofs.YtmpjebkjopfejaaGreat
open Go.ChangeShapes Go.WideShapes Go.ChangeAt Go.RowKit

/-- A slice of so many cells in a block from B on and below T that nobody else has (none at all where there is no cell). -/
def Ans (B T : Nat) (w : World) (xs : List Value) (v : Value) : Prop := ∃ a cap, v = .slice a xs.length cap ∧ (xs = [] ∨ ∃ g, a = some ⟨g, 0, none⟩ ∧ B ≤ g ∧ g < T ∧ Row w g xs)

theorem Ans.of_owns {w : World} {B n : Nat} {e : TypeId} {v : Value} {xs : List Value} (h : w.ownsRow B e 1 v n xs) : Ans B w.heap.size w xs v := by
  by_cases hn : 0 < n
  · obtain ⟨g, cap, hv, hg, hr⟩ := row_of_owns h hn
    have hl : xs.length = n := by have := h.1; omega
    exact ⟨_, cap, by rw [hl]; exact hv, .inr ⟨g, rfl, hg, hr.lt, hr⟩⟩
  · obtain ⟨hlen, h⟩ := h
    have hx : xs = [] := List.length_eq_zero_iff.1 (by omega)
    subst hx
    obtain rfl : n = 0 := by omega
    rcases h with ⟨rfl, hn0⟩ | ⟨g, cap, cur, rfl, _⟩
    · exact ⟨none, 0, rfl, .inl rfl⟩
    · exact ⟨_, cap, rfl, .inl rfl⟩

theorem Ans.sq {B T : Nat} {w : World} {xs : List Value} {a : Option Addr} {n cap : Nat} (h : Ans B T w xs (.slice a n cap)) : n = xs.length ∧ Sq w a xs := by
  obtain ⟨a', cap', hv, h⟩ := h
  cases hv
  refine ⟨rfl, ?_⟩
  rcases h with rfl | ⟨g, rfl, _, _, hr⟩
  · exact ⟨fun i u hu => by simp at hu⟩
  · exact Sq.of_row hr

theorem Ans.form {B T : Nat} {w : World} {xs : List Value} {v : Value} (h : Ans B T w xs v) : ∃ a cap, v = .slice a xs.length cap := by
  obtain ⟨a, cap, hv, _⟩ := h
  exact ⟨a, cap, hv⟩

/-- What keeps its row keeps it. -/
theorem Ans.keep {B T : Nat} {w w' : World} {xs : List Value} {v : Value} (h : Ans B T w xs v) (hk : ∀ g, B ≤ g → g < T → Row w g xs → Row w' g xs) : Ans B T w' xs v := by
  obtain ⟨a, cap, hv, h⟩ := h
  refine ⟨a, cap, hv, ?_⟩
  rcases h with rfl | ⟨g, rfl, hg, hT, hr⟩
  · exact .inl rfl
  · exact .inr ⟨g, rfl, hg, hT, hk g hg hT hr⟩

theorem Ans.below {B T : Nat} {w w' : World} {xs : List Value} {v : Value} (h : Ans B T w xs v) (hb : Below w.heap.size w w') : Ans B T w' xs v := h.keep fun _ _ _ hr => hr.below hb

theorem ints_nil {xs : List Int} (h : ints xs = []) : xs = [] := by cases xs with | nil => rfl | cons x r => simp [ints] at h

theorem upFrom_nil (k : Nat) : upFrom k 0 = [] := by simp [upFrom]

theorem markIntS_nil (a : Option Addr) (cap k0 : Nat) (w : World) : Calls Tryz.prog 14 #[.slice a 0 cap, .int .i64 (k0 : Int)] w fun e w' => e = .returned (.int .i64 (k0 : Int)) ∧ w' = w := by
  go_enter Tryz.func14, Tryz.ntmps14
  go_wp2_with fail
  go_loopw [1, 5] (fun k i wr => i = .int .i64 0 ∧ k = .int .i64 (k0 : Int) ∧ wr = w) (fun _ _ _ => 0)
  case atStart => exact ⟨rfl, rfl, rfl⟩
  case round =>
    obtain ⟨rfl, rfl, rfl⟩ := hrel
    go_wp2_with fail
    go_ret
    exact ⟨rfl, rfl⟩

theorem mark_ans {B T k0 : Nat} {w : World} {xs : List Value} {v : Value} (h : Ans B T w xs v) (hl : xs.length ≤ 2147483648) (hk : k0 ≤ 4294967296) :
    Calls Tryz.prog 14 #[v, .int .i64 (k0 : Int)] w fun e w' => e = .returned (.int .i64 ((k0 + xs.length : Nat) : Int)) ∧ Ans B T w' (upFrom k0 xs.length) v ∧
      (∀ b ys, Row w b ys → b < B → Row w' b ys) ∧ (∀ w0 : World, Below w0.heap.size w0 w → w0.heap.size ≤ B → Below w0.heap.size w0 w') := by
  obtain ⟨a, cap, rfl, h⟩ := h
  rcases h with rfl | ⟨g, rfl, hg, hT, hr⟩
  · refine (markIntS_nil a cap k0 w).mono ?_
    rintro e w' ⟨rfl, rfl⟩
    exact ⟨by simp, ⟨a, cap, by rw [upFrom_len], .inl (by simp [upFrom])⟩, fun _ _ h _ => h, fun _ h _ => h⟩
  · refine (markIntS_c g cap k0 xs hl hk w hr).mono ?_
    rintro e w' ⟨rfl, hgr, hr'⟩
    exact ⟨rfl, ⟨_, cap, by rw [upFrom_len], .inr ⟨g, rfl, hg, hT, hr'⟩⟩, fun b ys h hb => h.far hgr (by intro e; have := Option.some.inj e; omega), fun w0 hb0 h0 => hb0.grown hgr hb0.size (fun k e => by cases e; omega)⟩
theorem heldIntS_nil (a : Option Addr) (cap k0 : Nat) (w : World) : Calls Tryz.prog 69 #[.slice a 0 cap, .int .i64 (k0 : Int)] w fun e w' => e = .returned (.int .i64 (k0 : Int)) ∧ Below w.heap.size w w' := by
  go_enter Tryz.func69, Tryz.ntmps69
  go_wp2_with fail
  go_loopw [1, 5] (fun k i wr => i = .int .i64 0 ∧ k = .int .i64 (k0 : Int) ∧ wr = w) (fun _ _ _ => 0)
  case atStart => exact ⟨rfl, rfl, rfl⟩
  case round =>
    obtain ⟨rfl, rfl, rfl⟩ := hrel
    go_wp2_with fail
    go_ret
    exact ⟨rfl, Below.refl _ _⟩

theorem held_ans {B T k0 n : Nat} {w : World} {v : Value} (h : Ans B T w (upFrom k0 n) v) (hl : n ≤ 2147483648) (hk : k0 ≤ 4294967296) :
    Calls Tryz.prog 69 #[v, .int .i64 (k0 : Int)] w fun e w' => e = .returned (.int .i64 ((k0 + n : Nat) : Int)) ∧ Below w.heap.size w w' := by
  obtain ⟨a, cap, rfl, h⟩ := h
  rw [upFrom_len]
  rcases h with hx | ⟨g, rfl, hg, hT, hr⟩
  · obtain rfl : n = 0 := by
      have := upFrom_len k0 n
      rw [hx] at this
      simpa using this.symm
    exact heldIntS_nil a cap k0 w
  · exact heldIntS_c g cap k0 n hl hk w hr

/-- Two answers are held against each other. -/
theorem eq_ans {B B' T T' : Nat} {w : World} {xs : List Int} {v v' : Value} (h : Ans B T w (ints xs) v) (h' : Ans B' T' w (ints xs) v') (hl : xs.length ≤ 1048576) :
    Calls Tryz.prog 12 #[v, v'] w fun e w' => e = .returned (.bool true) ∧ Below w.heap.size w w' := by
  obtain ⟨a, cap, rfl⟩ := h.form
  obtain ⟨a', cap', rfl⟩ := h'.form
  have h1 := h.sq.2
  have h2 := h'.sq.2
  rw [ints_len]
  refine (eqIntS_c a a' cap cap' xs xs hl w h1 h2).mono ?_
  rintro e w' ⟨rfl, hb⟩
  exact ⟨by simp, hb⟩
end Go.Proofs.YtmpjebkjopfejaaGreat
