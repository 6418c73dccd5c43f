/- Answers that are profiles: they own their memory; marked and found marked; held against each other. -/
import Derived.Test.YtbnbikmnembciaaPtA
import Derived.Test.YtbnbikmnembciaaTopJ
namespace Go.Proofs.Ytbnbikmnembciaa
open Go.ChangeShapes Go.WideShapes Go.ChangeAt Go.RowKit

/-- A slice of n points in a block from B on and below T (none at all where there is no point). -/
def AnsP (B T : Nat) (w : World) (n : Nat) (xs : List Value) (v : Value) : Prop := xs.length = 4 * n ∧ ∃ a cap, v = .slice a n cap ∧ (n = 0 ∨ ∃ g, a = some ⟨g, 0, none⟩ ∧ B ≤ g ∧ g < T ∧ Row w g xs)

theorem AnsP.of_row {w : World} {g n cap : Nat} {xs : List Value} (hx : xs.length = 4 * n) (h : Row w g xs) {B T : Nat} (hB : B ≤ g) (hT : g < T) : AnsP B T w n xs (.slice (some ⟨g, 0, none⟩) n cap) := ⟨hx, _, cap, rfl, .inr ⟨g, rfl, hB, hT, h⟩⟩
theorem AnsP.none (B T : Nat) (w : World) (a : Option Addr) (cap : Nat) : AnsP B T w 0 [] (.slice a 0 cap) := ⟨rfl, a, cap, rfl, .inl rfl⟩

theorem AnsP.of_owns {w : World} {B n : Nat} {e : TypeId} {v : Value} {xs : List Value} (h : w.ownsRow B e 4 v n xs) : AnsP B w.heap.size w n xs v := by
  obtain ⟨hlen, h⟩ := h
  refine ⟨by omega, ?_⟩
  rcases h with ⟨rfl, rfl⟩ | ⟨g, cap, cur, rfl, hB, hg, hnc, _, hsz, hx⟩
  · exact ⟨_, 0, rfl, .inl rfl⟩
  · have hlt : g < w.heap.size := by
      rcases Nat.lt_or_ge g w.heap.size with h' | h'
      · exact h'
      · rw [Array.getElem?_eq_none h'] at hg; cases hg
    refine ⟨_, cap, rfl, .inr ⟨g, rfl, hB, hlt, fun i u hu => ?_, fun i => ?_, hlt⟩⟩
    · rw [← hx] at hu
      have hi : cur.toList[i]? = some u := by
        rw [List.getElem?_take] at hu
        split at hu
        · exact hu
        · cases hu
      simp only [World.cell?, hg]
      simpa using hi
    · simp [World.frozen?, hg]

theorem AnsP.sq {B T : Nat} {w : World} {n : Nat} {xs : List Value} {a : Option Addr} {m cap : Nat} (h : AnsP B T w n xs (.slice a m cap)) : m = n ∧ Sq w a xs := by
  obtain ⟨hx, a', cap', hv, h⟩ := h
  cases hv
  refine ⟨rfl, ?_⟩
  rcases h with rfl | ⟨g, rfl, _, _, hr⟩
  · have : xs = [] := List.length_eq_zero_iff.1 (by omega)
    subst this
    exact ⟨fun i u hu => by simp at hu⟩
  · exact Sq.of_row hr

theorem AnsP.form {B T : Nat} {w : World} {n : Nat} {xs : List Value} {v : Value} (h : AnsP B T w n xs v) : ∃ a cap, v = .slice a n cap ∧ Sq w a xs := by
  obtain ⟨hx, a, cap, rfl, h'⟩ := h
  exact ⟨a, cap, rfl, (AnsP.sq (B := B) (T := T) ⟨hx, a, cap, rfl, h'⟩).2⟩

/-- What keeps its row keeps it. -/
theorem AnsP.keep {B T : Nat} {w w' : World} {n : Nat} {xs : List Value} {v : Value} (h : AnsP B T w n xs v) (hk : ∀ g, B ≤ g → g < T → Row w g xs → Row w' g xs) : AnsP B T w' n xs v := by
  obtain ⟨hx, a, cap, hv, h⟩ := h
  refine ⟨hx, a, cap, hv, ?_⟩
  rcases h with rfl | ⟨g, rfl, hg, hT, hr⟩
  · exact .inl rfl
  · exact .inr ⟨g, rfl, hg, hT, hk g hg hT hr⟩

theorem AnsP.below {B T : Nat} {w w' : World} {n : Nat} {xs : List Value} {v : Value} (h : AnsP B T w n xs v) (hb : Below w.heap.size w w') : AnsP B T w' n xs v := h.keep fun _ _ _ hr => hr.below hb
theorem AnsP.wide {B B' T T' : Nat} {w : World} {n : Nat} {xs : List Value} {v : Value} (h : AnsP B T w n xs v) (hB : B' ≤ B) (hT : T ≤ T') : AnsP B' T' w n xs v := by
  obtain ⟨hx, a, cap, hv, h⟩ := h
  refine ⟨hx, a, cap, hv, ?_⟩
  rcases h with rfl | ⟨g, rfl, hg, hT', hr⟩
  · exact .inl rfl
  · exact .inr ⟨g, rfl, by omega, by omega, hr⟩

theorem markPtS_nil (a : Option Addr) (cap k0 : Nat) (w : World) : Calls Try.prog 58 #[.slice a 0 cap, .int .i64 (k0 : Int)] w fun e w' => e = .returned (.int .i64 (k0 : Int)) ∧ w' = w := by
  go_enter Try.func58, Try.ntmps58
  go_wp2_with fail
  go_loopw [1, 5] (fun k i wr => i = .int .i64 0 ∧ k = .int .i64 (k0 : Int) ∧ wr = w) (fun _ _ _ => 0)
  case atStart => exact ⟨rfl, rfl, rfl⟩
  case round =>
    obtain ⟨rfl, rfl, rfl⟩ := hrel
    go_wp2_with fail
    go_ret
    exact ⟨rfl, rfl⟩

/-- Others keep their rows, and what only made memory goes on doing so. -/
def Apart (B T : Nat) (w w' : World) : Prop := (∀ b ys, Row w b ys → b < B ∨ T ≤ b → Row w' b ys) ∧ (∀ w0 : World, Below w0.heap.size w0 w → w0.heap.size ≤ B → Below w0.heap.size w0 w') ∧ w.heap.size ≤ w'.heap.size

theorem markPtS_ans {B T k0 n : Nat} {w : World} {xs : List Value} {v : Value} (h : AnsP B T w n xs v) (hl : n ≤ 1048576) (hk : k0 ≤ 4294967296) :
    Calls Try.prog 58 #[v, .int .i64 (k0 : Int)] w fun e w' => e = .returned (.int .i64 ((k0 + 4 * n : Nat) : Int)) ∧ AnsP B T w' n (upFrom k0 (4 * n)) v ∧ Apart B T w w' := by
  obtain ⟨hx, a, cap, rfl, h⟩ := h
  rcases h with rfl | ⟨g, rfl, hg, hT, hr⟩
  · refine (markPtS_nil a cap k0 w).mono ?_
    rintro e w' ⟨rfl, rfl⟩
    exact ⟨by simp, AnsP.none _ _ _ _ _, fun _ _ h _ => h, fun _ h _ => h, Nat.le_refl _⟩
  · refine (markPtS_c g cap n k0 xs hx hl hk w hr).mono ?_
    rintro e w' ⟨rfl, hgr, hr'⟩
    exact ⟨rfl, AnsP.of_row (upFrom_len _ _) hr' hg hT, fun b ys h hb => h.far hgr (by intro e; have := Option.some.inj e; omega), fun w0 hb0 h0 => hb0.grown hgr hb0.size (fun k e => by cases e; omega), hgr.size⟩

set_option maxHeartbeats 1000000 in
theorem markProf_ans {B T k0 n : Nat} {w : World} {xs : List Value} {v : Value} (h : AnsP B T w n xs v) (hl : n ≤ 1048576) (hk : k0 ≤ 4294967296) :
    Calls Try.prog 36 #[.agg #[v], .int .i64 (k0 : Int)] w fun e w' => e = .returned (.int .i64 ((k0 + 4 * n : Nat) : Int)) ∧ AnsP B T w' n (upFrom k0 (4 * n)) v ∧ Apart B T w w' := by
  have H : Hid (AnsP B T w n xs v) := h
  obtain ⟨a, cap, hv, _⟩ := h.form
  clear h
  subst hv
  go_enter Try.func36, Try.ntmps36
  go_wp2_with fail
  have HV : Hid (Below w.heap.size w (w.alloc (.cells #[.slice a n cap] 43))) := low_alloc _ _
  generalize w.alloc (.cells #[.slice a n cap] 43) = V at HV
  refine (markPtS_ans (H.out.below HV.out) hl hk).mono ?_
  rintro e w1 ⟨rfl, h1, h2, h3, h4⟩
  have H1 : Hid (AnsP B T w1 n (upFrom k0 (4 * n)) (.slice a n cap)) := h1
  have H2 : Hid (Apart B T V w1) := ⟨h2, h3, h4⟩
  clear h1 h2 h3 h4
  go_wp2_with fail
  go_ret
  exact ⟨rfl, H1.out, fun b ys hb hc => H2.out.1 b ys (hb.below HV.out) hc, fun w0 hb0 h0 => H2.out.2.1 w0 (below_then hb0 HV.out) h0, Nat.le_trans HV.out.size H2.out.2.2⟩


/-- Two answers are held against each other. -/
theorem eqProf_ans {B B' T T' : Nat} {w : World} {ns ns' : List Nd} {v v' : Value} (h : AnsP B T w ns.length (flat ns) v) (h' : AnsP B' T' w ns'.length (flat ns') v') (hl : ns.length ≤ 1048576) :
    Calls Try.prog 32 #[.agg #[v], .agg #[v']] w fun e w' => e = .returned (.bool (decide (ns = ns'))) ∧ Below w.heap.size w w' := by
  obtain ⟨a, cap, rfl, h1⟩ := h.form
  obtain ⟨a', cap', rfl, h2⟩ := h'.form
  exact eqProf_c a a' cap cap' ns ns' hl w h1 h2

/-- What a function that answers a profile and whether it could answers. -/
def RetP (w : World) (r : List Nd) (k : Bool) (e : Ending) (w' : World) : Prop := ∃ v, e = .returned (.tuple #[.agg #[v], .bool k]) ∧ AnsP w.heap.size w'.heap.size w' r.length (flat r) v ∧ Below w.heap.size w w'
end Go.Proofs.Ytbnbikmnembciaa
