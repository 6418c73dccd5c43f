/- Rooms as answers: they own their memory; marked and found marked. -/
import Derived.Test.YtmpjebkjopfejaaGreatMzPtA
import Derived.Test.YtmpjebkjopfejaaGreatMgRc
import Derived.Test.YtmpjebkjopfejaaGreatMgRa
namespace Go.Proofs.YtmpjebkjopfejaaGreat
open Go.ChangeShapes Go.WideShapes Go.ChangeAt Go.RowKit

/-- A slice of n points in a block from B on and below T (none at all where there is no point). -/
def AnsP (B T : Nat) (w : World) (n : Nat) (xs : List Value) (v : Value) : Prop := xs.length = 4 * n ∧ ∃ a cap, v = .slice a n cap ∧ (n = 0 ∨ ∃ g, a = some ⟨g, 0, none⟩ ∧ B ≤ g ∧ g < T ∧ Row w g xs)

theorem AnsP.of_row {w : World} {g n cap : Nat} {xs : List Value} (hx : xs.length = 4 * n) (h : Row w g xs) {B T : Nat} (hB : B ≤ g) (hT : g < T) : AnsP B T w n xs (.slice (some ⟨g, 0, none⟩) n cap) := ⟨hx, _, cap, rfl, .inr ⟨g, rfl, hB, hT, h⟩⟩
theorem AnsP.none (B T : Nat) (w : World) (a : Option Addr) (cap : Nat) : AnsP B T w 0 [] (.slice a 0 cap) := ⟨rfl, a, cap, rfl, .inl rfl⟩

theorem AnsP.of_owns {w : World} {B n : Nat} {e : TypeId} {v : Value} {xs : List Value} (h : w.ownsRow B e 4 v n xs) : AnsP B w.heap.size w n xs v := by
  obtain ⟨hlen, h⟩ := h
  refine ⟨by omega, ?_⟩
  rcases h with ⟨rfl, rfl⟩ | ⟨g, cap, cur, rfl, hB, hg, hnc, _, hsz, hx⟩
  · exact ⟨_, 0, rfl, .inl rfl⟩
  · have hlt : g < w.heap.size := by
      rcases Nat.lt_or_ge g w.heap.size with h' | h'
      · exact h'
      · rw [Array.getElem?_eq_none h'] at hg; cases hg
    refine ⟨_, cap, rfl, .inr ⟨g, rfl, hB, hlt, fun i u hu => ?_, fun i => ?_, hlt⟩⟩
    · rw [← hx] at hu
      have hi : cur.toList[i]? = some u := by
        rw [List.getElem?_take] at hu
        split at hu
        · exact hu
        · cases hu
      simp only [World.cell?, hg]
      simpa using hi
    · simp [World.frozen?, hg]

theorem AnsP.sq {B T : Nat} {w : World} {n : Nat} {xs : List Value} {a : Option Addr} {m cap : Nat} (h : AnsP B T w n xs (.slice a m cap)) : m = n ∧ Sq w a xs := by
  obtain ⟨hx, a', cap', hv, h⟩ := h
  cases hv
  refine ⟨rfl, ?_⟩
  rcases h with rfl | ⟨g, rfl, _, _, hr⟩
  · have : xs = [] := List.length_eq_zero_iff.1 (by omega)
    subst this
    exact ⟨fun i u hu => by simp at hu⟩
  · exact Sq.of_row hr

theorem AnsP.form {B T : Nat} {w : World} {n : Nat} {xs : List Value} {v : Value} (h : AnsP B T w n xs v) : ∃ a cap, v = .slice a n cap ∧ Sq w a xs := by
  obtain ⟨hx, a, cap, rfl, h'⟩ := h
  exact ⟨a, cap, rfl, (AnsP.sq (B := B) (T := T) ⟨hx, a, cap, rfl, h'⟩).2⟩

/-- What keeps its row keeps it. -/
theorem AnsP.keep {B T : Nat} {w w' : World} {n : Nat} {xs : List Value} {v : Value} (h : AnsP B T w n xs v) (hk : ∀ g, B ≤ g → g < T → Row w g xs → Row w' g xs) : AnsP B T w' n xs v := by
  obtain ⟨hx, a, cap, hv, h⟩ := h
  refine ⟨hx, a, cap, hv, ?_⟩
  rcases h with rfl | ⟨g, rfl, hg, hT, hr⟩
  · exact .inl rfl
  · exact .inr ⟨g, rfl, hg, hT, hk g hg hT hr⟩

theorem AnsP.below {B T : Nat} {w w' : World} {n : Nat} {xs : List Value} {v : Value} (h : AnsP B T w n xs v) (hb : Below w.heap.size w w') : AnsP B T w' n xs v := h.keep fun _ _ _ hr => hr.below hb
theorem AnsP.wide {B B' T T' : Nat} {w : World} {n : Nat} {xs : List Value} {v : Value} (h : AnsP B T w n xs v) (hB : B' ≤ B) (hT : T ≤ T') : AnsP B' T' w n xs v := by
  obtain ⟨hx, a, cap, hv, h⟩ := h
  refine ⟨hx, a, cap, hv, ?_⟩
  rcases h with rfl | ⟨g, rfl, hg, hT', hr⟩
  · exact .inl rfl
  · exact .inr ⟨g, rfl, by omega, by omega, hr⟩

theorem markPtS_nil (a : Option Addr) (cap k0 : Nat) (w : World) : Calls Tryz.prog 68 #[.slice a 0 cap, .int .i64 (k0 : Int)] w fun e w' => e = .returned (.int .i64 (k0 : Int)) ∧ w' = w := by
  go_enter Tryz.func68, Tryz.ntmps68
  go_wp2_with fail
  go_loopw [1, 5] (fun k i wr => i = .int .i64 0 ∧ k = .int .i64 (k0 : Int) ∧ wr = w) (fun _ _ _ => 0)
  case atStart => exact ⟨rfl, rfl, rfl⟩
  case round =>
    obtain ⟨rfl, rfl, rfl⟩ := hrel
    go_wp2_with fail
    go_ret
    exact ⟨rfl, rfl⟩

/-- Others keep their rows, and what only made memory goes on doing so. -/
def Apart (B T : Nat) (w w' : World) : Prop := (∀ b ys, Row w b ys → b < B ∨ T ≤ b → Row w' b ys) ∧ (∀ w0 : World, Below w0.heap.size w0 w → w0.heap.size ≤ B → Below w0.heap.size w0 w') ∧ w.heap.size ≤ w'.heap.size

theorem markPtS_ans {B T k0 n : Nat} {w : World} {xs : List Value} {v : Value} (h : AnsP B T w n xs v) (hl : n ≤ 1048576) (hk : k0 ≤ 4294967296) :
    Calls Tryz.prog 68 #[v, .int .i64 (k0 : Int)] w fun e w' => e = .returned (.int .i64 ((k0 + 4 * n : Nat) : Int)) ∧ AnsP B T w' n (upFrom k0 (4 * n)) v ∧ Apart B T w w' := by
  obtain ⟨hx, a, cap, rfl, h⟩ := h
  rcases h with rfl | ⟨g, rfl, hg, hT, hr⟩
  · refine (markPtS_nil a cap k0 w).mono ?_
    rintro e w' ⟨rfl, rfl⟩
    exact ⟨by simp, AnsP.none _ _ _ _ _, fun _ _ h _ => h, fun _ h _ => h, Nat.le_refl _⟩
  · refine (markPtS_c g cap n k0 xs hx hl hk w hr).mono ?_
    rintro e w' ⟨rfl, hgr, hr'⟩
    exact ⟨rfl, AnsP.of_row (upFrom_len _ _) hr' hg hT, fun b ys h hb => h.far hgr (by intro e; have := Option.some.inj e; omega), fun w0 hb0 h0 => hb0.grown hgr hb0.size (fun k e => by cases e; omega), hgr.size⟩

set_option maxHeartbeats 1000000 in
theorem markProf_ans {B T k0 n : Nat} {w : World} {xs : List Value} {v : Value} (h : AnsP B T w n xs v) (hl : n ≤ 1048576) (hk : k0 ≤ 4294967296) :
    Calls Tryz.prog 40 #[.agg #[v], .int .i64 (k0 : Int)] w fun e w' => e = .returned (.int .i64 ((k0 + 4 * n : Nat) : Int)) ∧ AnsP B T w' n (upFrom k0 (4 * n)) v ∧ Apart B T w w' := by
  have H : Hid (AnsP B T w n xs v) := h
  obtain ⟨a, cap, hv, _⟩ := h.form
  clear h
  subst hv
  go_enter Tryz.func40, Tryz.ntmps40
  go_wp2_with fail
  have HV : Hid (Below w.heap.size w (w.alloc (.cells #[.slice a n cap] 44))) := low_alloc _ _
  generalize w.alloc (.cells #[.slice a n cap] 44) = V at HV
  refine (markPtS_ans (H.out.below HV.out) hl hk).mono ?_
  rintro e w1 ⟨rfl, h1, h2, h3, h4⟩
  have H1 : Hid (AnsP B T w1 n (upFrom k0 (4 * n)) (.slice a n cap)) := h1
  have H2 : Hid (Apart B T V w1) := ⟨h2, h3, h4⟩
  clear h1 h2 h3 h4
  go_wp2_with fail
  go_ret
  exact ⟨rfl, H1.out, fun b ys hb hc => H2.out.1 b ys (hb.below HV.out) hc, fun w0 hb0 h0 => H2.out.2.1 w0 (below_then hb0 HV.out) h0, Nat.le_trans HV.out.size H2.out.2.2⟩

theorem heldPtS_nil (a : Option Addr) (cap k0 : Nat) (w : World) : Calls Tryz.prog 71 #[.slice a 0 cap, .int .i64 (k0 : Int)] w fun e w' => e = .returned (.int .i64 (k0 : Int)) ∧ Below w.heap.size w w' := by
  go_enter Tryz.func71, Tryz.ntmps71
  go_wp2_with fail
  go_loopw [1, 5] (fun k i wr => i = .int .i64 0 ∧ k = .int .i64 (k0 : Int) ∧ wr = w) (fun _ _ _ => 0)
  case atStart => exact ⟨rfl, rfl, rfl⟩
  case round =>
    obtain ⟨rfl, rfl, rfl⟩ := hrel
    go_wp2_with fail
    go_ret
    exact ⟨rfl, Below.refl _ _⟩

theorem heldPtS_ans {B T k0 n : Nat} {w : World} {v : Value} (h : AnsP B T w n (upFrom k0 (4 * n)) v) (hl : n ≤ 1048576) (hk : k0 ≤ 4294967296) :
    Calls Tryz.prog 71 #[v, .int .i64 (k0 : Int)] w fun e w' => e = .returned (.int .i64 ((k0 + 4 * n : Nat) : Int)) ∧ Below w.heap.size w w' := by
  obtain ⟨hx, a, cap, rfl, h⟩ := h
  rcases h with rfl | ⟨g, rfl, hg, hT, hr⟩
  · exact heldPtS_nil a cap k0 w
  · exact heldPtS_c g cap k0 n hl hk w hr

set_option maxHeartbeats 1000000 in
theorem heldProf_ans {B T k0 n : Nat} {w : World} {v : Value} (h : AnsP B T w n (upFrom k0 (4 * n)) v) (hl : n ≤ 1048576) (hk : k0 ≤ 4294967296) :
    Calls Tryz.prog 44 #[.agg #[v], .int .i64 (k0 : Int)] w fun e w' => e = .returned (.int .i64 ((k0 + 4 * n : Nat) : Int)) ∧ Below w.heap.size w w' := by
  have H : Hid (AnsP B T w n (upFrom k0 (4 * n)) v) := h
  obtain ⟨a, cap, hv, _⟩ := h.form
  clear h
  subst hv
  go_enter Tryz.func44, Tryz.ntmps44
  go_wp2_with fail
  have HV : Hid (Below w.heap.size w (w.alloc (.cells #[.slice a n cap] 44))) := low_alloc _ _
  generalize w.alloc (.cells #[.slice a n cap] 44) = V at HV
  refine (heldPtS_ans (H.out.below HV.out) hl hk).mono ?_
  rintro e w1 ⟨rfl, hb⟩
  have HB : Hid (Below w.heap.size w w1) := below_then HV.out hb
  clear hb
  generalize hK : k0 + 4 * n = K
  have HK : Hid (k0 + 4 * n = K) := hK
  clear hK
  go_wp2_with fail
  go_ret
  exact ⟨by rw [HK.out]; rfl, HB.out⟩

/-- Two answers are held against each other. -/
theorem eqProf_ans {B B' T T' : Nat} {w : World} {ns ns' : List Nd} {v v' : Value} (h : AnsP B T w ns.length (flat ns) v) (h' : AnsP B' T' w ns'.length (flat ns') v') (hl : ns.length ≤ 1048576) :
    Calls Tryz.prog 36 #[.agg #[v], .agg #[v']] w fun e w' => e = .returned (.bool (decide (ns = ns'))) ∧ Below w.heap.size w w' := by
  obtain ⟨a, cap, rfl, h1⟩ := h.form
  obtain ⟨a', cap', rfl, h2⟩ := h'.form
  exact eqProf_c a a' cap cap' ns ns' hl w h1 h2

/-- What a function that answers a profile and whether it could answers. -/
def RetP (w : World) (r : List Nd) (k : Bool) (e : Ending) (w' : World) : Prop := ∃ v, e = .returned (.tuple #[.agg #[v], .bool k]) ∧ AnsP w.heap.size w'.heap.size w' r.length (flat r) v ∧ Below w.heap.size w w'
end Go.Proofs.YtmpjebkjopfejaaGreat

namespace Go.Proofs.YtmpjebkjopfejaaGreat
open Go.ChangeShapes Go.WideShapes Go.ChangeAt Go.RowKit

set_option maxHeartbeats 1000000 in
theorem markNodeS_c (g cap n k0 : Nat) (xs : List Value) (hx : xs.length = 4 * n) (hl : n ≤ 1048576) (hk : k0 ≤ 4294967296) (w : World) (h : Row w g xs) :
    Calls Tryz.prog 67 #[.slice (some ⟨g, 0, none⟩) n cap, .int .i64 (k0 : Int)] w fun e w' => e = .returned (.int .i64 ((k0 + 4 * n : Nat) : Int)) ∧ w.grownBy w' (some g) := by
  have H : Hid (Row w g xs) := h
  clear h
  go_enter Tryz.func67, Tryz.ntmps67
  go_wp2_with fail
  go_loopw [1, 5] (fun k i wr => ∃ (j : Nat) (ys : List Value), j ≤ n ∧ i = .int .i64 j ∧ k = .int .i64 ((k0 + 4 * j : Nat) : Int) ∧ ys.length = 4 * n ∧ w.grownBy wr (some g) ∧ Row wr g ys) (fun _ i _ => n - (intOf i).toNat)
  case atStart => exact ⟨0, xs, Nat.zero_le _, rfl, rfl, hx, ⟨rfl, rfl, rfl, Nat.le_refl _, fun _ _ _ => rfl⟩, H.out⟩
  case round =>
    obtain ⟨j, ys, hj, rfl, rfl, hy, hg, hr⟩ := hrel
    have HG : Hid (w.grownBy wr (some g)) := hg
    have HR : Hid (Row wr g ys) := hr
    clear hg hr
    by_cases hlt : j < n
    · have hi1 : (j : Int) < (n : Int) := by omega
      have hi0 : (0 : Int) ≤ (j : Int) := by omega
      have d0 := HR.out.cell (j * 4) _ (List.getElem?_eq_getElem (by omega))
      have d1 := HR.out.cell (j * 4 + 1) _ (List.getElem?_eq_getElem (by omega))
      have d2 := HR.out.cell (j * 4 + 2) _ (List.getElem?_eq_getElem (by omega))
      have d3 := HR.out.cell (j * 4 + 3) _ (List.getElem?_eq_getElem (by omega))
      have f0 := HR.out.free (j * 4)
      have f1 := HR.out.free (j * 4 + 1)
      have f2 := HR.out.free (j * 4 + 2)
      have f3 := HR.out.free (j * 4 + 3)
      generalize ys[j * 4] = y0 at d0
      generalize ys[j * 4 + 1] = y1 at d1
      generalize ys[j * 4 + 2] = y2 at d2
      generalize ys[j * 4 + 3] = y3 at d3
      go_wp2_with fail
      refine ⟨⟨j + 1, (((ys.set (j * 4) _).set (j * 4 + 1) _).set (j * 4 + 1 + 1) _).set (j * 4 + 1 + 2) _, by omega, by go_num, ?_, ?_, Lib.grownBy_setB (Lib.grownBy_setB (Lib.grownBy_setB (Lib.grownBy_setB HG.out _ _) _ _) _ _) _ _, (((HR.out.set _ ?_ _).set _ ?_ _).set _ ?_ _).set _ ?_ _⟩, by simp [intOf]; omega⟩
      · rw [show ((k0 : Int) + 4 * (j : Int) + 1 + 1 + 1 + 1) = ((k0 + 4 * (j + 1) : Nat) : Int) by omega]
      · simpa using hy
      · omega
      · simp; omega
      · simp; omega
      · simp; omega
    · obtain rfl : j = n := by omega
      go_wp2_with fail
      go_ret
      exact ⟨rfl, HG.out⟩

set_option maxHeartbeats 1000000 in
theorem markTopo_c (g h c d k0 : Nat) (ps : List Value) (ns : List Value) (n : Nat) (hp : ps.length ≤ 1048576) (hx : ns.length = 4 * n) (hl : n ≤ 1048576) (hk : k0 ≤ 1048576) (hgh : g ≠ h) (w : World) (h1 : Row w g ps) (h2 : Row w h ns) :
    Calls Tryz.prog 37 #[.agg #[.slice (some ⟨g, 0, none⟩) ps.length c, .slice (some ⟨h, 0, none⟩) n d], .int .i64 (k0 : Int)] w fun e w' => e = .returned (.int .i64 ((k0 + ps.length + 4 * n : Nat) : Int)) ∧
      (∀ b xs, Row w b xs → b ≠ g → b ≠ h → Row w' b xs) ∧ (∀ w0 : World, Below w0.heap.size w0 w → w0.heap.size ≤ g → w0.heap.size ≤ h → Below w0.heap.size w0 w') := by
  have H1 : Hid (Row w g ps) := h1
  have H2 : Hid (Row w h ns) := h2
  clear h1 h2
  go_enter Tryz.func37, Tryz.ntmps37
  go_wp2_with fail
  generalize hV : w.alloc (.cells #[.slice (some ⟨g, 0, none⟩) ps.length c, .slice (some ⟨h, 0, none⟩) n d] 40) = V
  have HA : Hid (Row V w.heap.size [.slice (some ⟨g, 0, none⟩) ps.length c, .slice (some ⟨h, 0, none⟩) n d]) := by subst hV; exact row_fresh w [.slice (some ⟨g, 0, none⟩) ps.length c, .slice (some ⟨h, 0, none⟩) n d] 40
  have HV : Hid (Below w.heap.size w V) := by subst hV; exact low_alloc _ _
  clear hV
  have l1 := H1.out.lt
  have l2 := H2.out.lt
  refine (markIntS_c g c k0 ps (by omega) (by omega) _ (H1.out.below HV.out)).mono ?_
  rintro e w1 ⟨rfl, hg1, _⟩
  have HG1 : Hid (V.grownBy w1 (some g)) := hg1
  have t1 := (HA.out.far hg1 (by intro e; have := Option.some.inj e; omega)).cell 1 _ rfl
  clear hg1
  go_wp2_with fail
  refine (markNodeS_c h d n (k0 + ps.length) ns hx hl (by omega) _ ((H2.out.below HV.out).far HG1.out (by intro e; have := Option.some.inj e; omega))).mono ?_
  rintro e w2 ⟨rfl, hg2⟩
  have HG2 : Hid (w1.grownBy w2 (some h)) := hg2
  clear hg2 t1
  go_wp2_with fail
  go_ret
  refine ⟨rfl, fun b xs hb hbg hbh => ((hb.below HV.out).far HG1.out (by intro e; exact hbg (Option.some.inj e))).far HG2.out (by intro e; exact hbh (Option.some.inj e)), fun w0 hb0 hg0 hh0 => ?_⟩
  have b1 : Below w0.heap.size w0 w1 := (below_then hb0 HV.out).grown HG1.out (below_then hb0 HV.out).size (fun q hq => by cases hq; exact hg0)
  exact b1.grown HG2.out b1.size (fun q hq => by cases hq; exact hh0)
end Go.Proofs.YtmpjebkjopfejaaGreat

namespace Go.Proofs.YtmpjebkjopfejaaGreat
open Go.ChangeShapes Go.WideShapes Go.ChangeAt Go.RowKit

theorem Apart.of_grown {B T g : Nat} {w w' : World} (h : w.grownBy w' (some g)) (h1 : B ≤ g) (h2 : g < T) : Apart B T w w' :=
  ⟨fun b ys hr hb => hr.far h (fun e => by have := Option.some.inj e; omega), fun w0 hb0 h0 => hb0.grown h hb0.size (fun k e => by cases e; omega), h.size⟩
theorem Apart.refl (B T : Nat) (w : World) : Apart B T w w := ⟨fun _ _ h _ => h, fun _ h _ => h, Nat.le_refl _⟩
theorem Apart.trans {B T : Nat} {w w' w'' : World} (h : Apart B T w w') (h' : Apart B T w' w'') : Apart B T w w'' :=
  ⟨fun b ys hr hb => h'.1 b ys (h.1 b ys hr hb) hb, fun w0 hb h0 => h'.2.1 w0 (h.2.1 w0 hb h0) h0, Nat.le_trans h.2.2 h'.2.2⟩
theorem Apart.wide {B T B' T' : Nat} {w w' : World} (h : Apart B T w w') (hB : B' ≤ B) (hT : T ≤ T') : Apart B' T' w w' :=
  ⟨fun b ys hr hb => h.1 b ys hr (by omega), fun w0 hb h0 => h.2.1 w0 hb (by omega), h.2.2⟩
theorem Apart.new {B T : Nat} {w w' w'' : World} (hb : Below w.heap.size w w') (h : Apart B T w' w'') : Apart B T w w'' :=
  ⟨fun b ys hr hc => h.1 b ys (hr.below hb) hc, fun w0 hb0 h0 => h.2.1 w0 (below_then hb0 hb) h0, Nat.le_trans hb.size h.2.2⟩
theorem OPs.keep {B T : Nat} {w w' : World} {g : Nat} {pss : List (List Nd)} {hs : List Nat} (h : OPs w g pss hs) (ha : Apart B T w w') (hg : T ≤ g) : OPs w' g pss hs :=
  ⟨h.len, ha.1 _ _ h.top (.inr hg), fun i x ns h1 h2 => ha.1 _ _ (h.each i x ns h1 h2) (.inr (by have := (List.pairwise_cons.1 h.rise).1 x (List.mem_of_getElem? h1); omega)), h.rise⟩

set_option maxHeartbeats 1000000 in
theorem markBoolS_c (g cap n k0 : Nat) (xs : List Value) (hx : xs.length = n) (hl : n ≤ 1048576) (hk : k0 ≤ 4294967296) (w : World) (h : Row w g xs) :
    Calls Tryz.prog 38 #[.slice (some ⟨g, 0, none⟩) n cap, .int .i64 (k0 : Int)] w fun e w' => e = .returned (.int .i64 ((k0 + n : Nat) : Int)) ∧ w.grownBy w' (some g) := by
  have H : Hid (Row w g xs) := h
  clear h
  go_enter Tryz.func38, Tryz.ntmps38
  go_wp2_with fail
  go_loopw [1, 5] (fun k i wr => ∃ (j : Nat) (ys : List Value), j ≤ n ∧ i = .int .i64 j ∧ k = .int .i64 ((k0 + j : Nat) : Int) ∧ ys.length = n ∧ w.grownBy wr (some g) ∧ Row wr g ys) (fun _ i _ => n - (intOf i).toNat)
  case atStart => exact ⟨0, xs, Nat.zero_le _, rfl, rfl, hx, ⟨rfl, rfl, rfl, Nat.le_refl _, fun _ _ _ => rfl⟩, H.out⟩
  case round =>
    obtain ⟨j, ys, hj, rfl, rfl, hy, hg, hr⟩ := hrel
    have HG : Hid (w.grownBy wr (some g)) := hg
    have HR : Hid (Row wr g ys) := hr
    clear hg hr
    by_cases hlt : j < n
    · have hi1 : (j : Int) < (n : Int) := by omega
      have hi0 : (0 : Int) ≤ (j : Int) := by omega
      have d0 := HR.out.cell j _ (List.getElem?_eq_getElem (by omega))
      have f0 := HR.out.free j
      generalize ys[j] = y0 at d0
      go_wp2_with fail
      refine ⟨⟨j + 1, ys.set j _, by omega, by go_num, ?_, ?_, Lib.grownBy_setB HG.out _ _, HR.out.set _ ?_ _⟩, by simp [intOf]; omega⟩
      · rw [show ((k0 : Int) + (j : Int) + 1) = ((k0 + (j + 1) : Nat) : Int) by omega]
      · simpa using hy
      · omega
    · obtain rfl : j = n := by omega
      go_wp2_with fail
      go_ret
      exact ⟨rfl, HG.out⟩

set_option maxHeartbeats 2000000 in
theorem markProfS_c (g cap k0 T : Nat) (pss : List (List Nd)) (hs : List Nat) (hl : pss.length ≤ 1048576) (htot : (pss.map List.length).sum ≤ 1048576) (hk : k0 ≤ 16777216) (hT : ∀ h ∈ hs, h < T) (w : World) (h : OPs w g pss hs) :
    Calls Tryz.prog 39 #[.slice (some ⟨g, 0, none⟩) pss.length cap, .int .i64 (k0 : Int)] w fun e w' => ∃ k1 : Nat, e = .returned (.int .i64 (k1 : Int)) ∧ k1 ≤ k0 + 4194304 ∧ Apart (g + 1) T w w' := by
  have H : Hid (OPs w g pss hs) := h
  have HT : Hid (∀ h ∈ hs, h < T) := hT
  have HTot : Hid ((pss.map List.length).sum ≤ 1048576) := htot
  clear h hT htot
  go_enter Tryz.func39, Tryz.ntmps39
  go_wp2_with fail
  go_loopw [1, 5] (fun k i wr => ∃ j : Nat, j ≤ pss.length ∧ i = .int .i64 j ∧ k = .int .i64 ((k0 + 4 * ((pss.take j).map List.length).sum : Nat) : Int) ∧ Apart (g + 1) T w wr ∧ (∀ i x ns, j ≤ i → hs[i]? = some x → pss[i]? = some ns → Row wr x (flat ns))) (fun _ i _ => pss.length - (intOf i).toNat)
  case atStart => exact ⟨0, Nat.zero_le _, rfl, by simp, Apart.refl _ _ _, fun i x ns _ h1 h2 => H.out.each i x ns h1 h2⟩
  case round =>
    obtain ⟨j, hj, rfl, rfl, hap, hrest⟩ := hrel
    have HAp : Hid (Apart (g + 1) T w wr) := hap
    have HRs : Hid (∀ i x ns, j ≤ i → hs[i]? = some x → pss[i]? = some ns → Row wr x (flat ns)) := hrest
    have hsum : ((pss.take j).map List.length).sum ≤ 1048576 := by
      have e : (pss.map List.length).sum = ((pss.take j).map List.length).sum + ((pss.drop j).map List.length).sum := by
        rw [← List.sum_append, ← List.map_append, List.take_append_drop]
      have := HTot.out
      omega
    clear hap hrest
    by_cases hlt : j < pss.length
    · have hi0 : (0 : Int) ≤ (j : Int) := by omega
      have hi1 : (j : Int) < (pss.length : Int) := by omega
      have hjh : j < hs.length := by rw [H.out.len]; exact hlt
      have HE : Hid (pss[j]? = some pss[j]) := List.getElem?_eq_getElem hlt
      have HX : Hid (hs[j]? = some hs[j]) := List.getElem?_eq_getElem hjh
      have HSm : Hid (((pss.take (j + 1)).map List.length).sum = ((pss.take j).map List.length).sum + pss[j].length) := by
        show _ = _
        rw [List.take_add_one, HE.out, Option.toList_some, List.map_append, List.sum_append, List.map_cons, List.map_nil, List.sum_cons, List.sum_nil, Nat.add_zero]
      have hnl : pss[j].length ≤ 1048576 := by
        have h2 : ((pss.take (j + 1)).map List.length).sum ≤ 1048576 := by
          have e : (pss.map List.length).sum = ((pss.take (j + 1)).map List.length).sum + ((pss.drop (j + 1)).map List.length).sum := by
            rw [← List.sum_append, ← List.map_append, List.take_append_drop]
          have := HTot.out
          omega
        have := HSm.out
        omega
      have hz : (List.zipWith (fun h (ns : List Nd) => Value.slice (some ⟨h, 0, none⟩) ns.length ns.length) hs pss)[j]? = some (.slice (some ⟨hs[j], 0, none⟩) pss[j].length pss[j].length) := by
        rw [List.getElem?_zipWith, HX.out, HE.out]
      have d0 := (HAp.out.1 _ _ H.out.top (.inl (Nat.lt_succ_self g))).cell j _ hz
      have hxT := HT.out hs[j] (List.getElem_mem hjh)
      have hgx := (List.pairwise_cons.1 H.out.rise).1 hs[j] (List.getElem_mem hjh)
      have Hsep : Hid (∀ i x, j < i → hs[i]? = some x → x ≠ hs[j]) := fun i x hi hx e => by
        have hp := (List.pairwise_cons.1 H.out.rise).2
        rw [List.pairwise_iff_getElem] at hp
        obtain ⟨hil, rfl⟩ := List.getElem?_eq_some_iff.1 hx
        have := hp j i hjh hil hi
        omega
      have HRj : Hid (Row wr hs[j] (flat pss[j])) := HRs.out j _ _ (Nat.le_refl _) HX.out HE.out
      generalize hs[j] = x at *
      generalize pss[j] = ns at *
      clear hz
      generalize ((pss.take j).map List.length).sum = S at *
      go_wp2_with fail
      refine (markPtS_c x ns.length ns.length (k0 + 4 * S) (flat ns) (flat_len ns) hnl (by omega) _ HRj.out).mono ?_
      rintro e w1 ⟨rfl, hgr, _⟩
      have HAp1 : Hid (Apart (g + 1) T w w1) := HAp.out.trans (Apart.of_grown hgr (by omega) hxT)
      have HRs1 : Hid (∀ i y ms, j + 1 ≤ i → hs[i]? = some y → pss[i]? = some ms → Row w1 y (flat ms)) := fun i y ms hi hy hm => (HRs.out i y ms (by omega) hy hm).far hgr (fun e => Hsep.out i y (by omega) hy (Option.some.inj e))
      clear hgr d0
      go_wp2_with fail
      exact ⟨⟨j + 1, by omega, by go_num, by rw [HSm.out]; congr 1; omega, HAp1.out, HRs1.out⟩, by simp [intOf]; omega⟩
    · generalize ((pss.take j).map List.length).sum = S at *
      go_wp2_with fail
      go_ret
      exact ⟨k0 + 4 * S, rfl, by omega, HAp.out⟩

set_option maxHeartbeats 4000000 in
theorem markRoom_c (R : Rm) (gP gN gU gQ gL : Nat) (hs : List Nat) (hsm : RSmall R) (htot : RTot R) (w : World) (B : Nat) (h : RO w B R gP gN gU gQ gL hs) :
    Calls Tryz.prog 13 #[.agg #[.slice (some ⟨gP, 0, none⟩) R.ps.length R.ps.length, .slice (some ⟨gN, 0, none⟩) R.ns.length R.ns.length, .slice (some ⟨gU, 0, none⟩) R.up.length R.up.length, .slice (some ⟨gQ, 0, none⟩) R.pss.length R.pss.length, .slice (some ⟨gL, 0, none⟩) R.lic.length R.lic.length], .int .i64 1] w fun e w' => ∃ k : Nat, e = .returned (.int .i64 (k : Int)) ∧ k ≤ 16777216 ∧ Apart gP (gL + 1) w w' := by
  have H : Hid (RO w B R gP gN gU gQ gL hs) := h
  obtain ⟨o1, o2, o3, o4, o5⟩ := h.ord
  have lL := h.rL.lt
  have HM : Hid (RSmall R) := hsm
  have t1 : R.ps.length + R.ns.length + R.up.length + R.pss.length + (R.pss.map List.length).sum + R.lic.length ≤ 1048576 := htot
  have hu := hsm.u
  have hp := hsm.p
  have hn := hsm.n
  clear h hsm htot
  go_enter Tryz.func13, Tryz.ntmps13
  go_wp2_with fail
  have HA0 : Hid (Row (w.alloc (.cells #[.slice (some ⟨gP, 0, none⟩) R.ps.length R.ps.length, .slice (some ⟨gN, 0, none⟩) R.ns.length R.ns.length, .slice (some ⟨gU, 0, none⟩) R.up.length R.up.length, .slice (some ⟨gQ, 0, none⟩) R.pss.length R.pss.length, .slice (some ⟨gL, 0, none⟩) R.lic.length R.lic.length] 46)) w.heap.size [.slice (some ⟨gP, 0, none⟩) R.ps.length R.ps.length, .slice (some ⟨gN, 0, none⟩) R.ns.length R.ns.length, .slice (some ⟨gU, 0, none⟩) R.up.length R.up.length, .slice (some ⟨gQ, 0, none⟩) R.pss.length R.pss.length, .slice (some ⟨gL, 0, none⟩) R.lic.length R.lic.length]) := row_fresh w [.slice (some ⟨gP, 0, none⟩) R.ps.length R.ps.length, .slice (some ⟨gN, 0, none⟩) R.ns.length R.ns.length, .slice (some ⟨gU, 0, none⟩) R.up.length R.up.length, .slice (some ⟨gQ, 0, none⟩) R.pss.length R.pss.length, .slice (some ⟨gL, 0, none⟩) R.lic.length R.lic.length] 46
  have HR0 : Hid (RO (w.alloc (.cells #[.slice (some ⟨gP, 0, none⟩) R.ps.length R.ps.length, .slice (some ⟨gN, 0, none⟩) R.ns.length R.ns.length, .slice (some ⟨gU, 0, none⟩) R.up.length R.up.length, .slice (some ⟨gQ, 0, none⟩) R.pss.length R.pss.length, .slice (some ⟨gL, 0, none⟩) R.lic.length R.lic.length] 46)) B R gP gN gU gQ gL hs) := H.out.below (low_alloc _ _)
  have HB0 : Hid (Below w.heap.size w (w.alloc (.cells #[.slice (some ⟨gP, 0, none⟩) R.ps.length R.ps.length, .slice (some ⟨gN, 0, none⟩) R.ns.length R.ns.length, .slice (some ⟨gU, 0, none⟩) R.up.length R.up.length, .slice (some ⟨gQ, 0, none⟩) R.pss.length R.pss.length, .slice (some ⟨gL, 0, none⟩) R.lic.length R.lic.length] 46))) := low_alloc _ _
  generalize w.alloc (.cells #[.slice (some ⟨gP, 0, none⟩) R.ps.length R.ps.length, .slice (some ⟨gN, 0, none⟩) R.ns.length R.ns.length, .slice (some ⟨gU, 0, none⟩) R.up.length R.up.length, .slice (some ⟨gQ, 0, none⟩) R.pss.length R.pss.length, .slice (some ⟨gL, 0, none⟩) R.lic.length R.lic.length] 46) = w0 at *
  have HT1 := markTopo_c gP gN R.ps.length R.ns.length 1 (ints R.ps) (flat R.ns) R.ns.length (by rw [ints_len]; exact hp) (flat_len _) hn (by omega) (by omega) w0 HR0.out.rP HR0.out.rN
  rw [ints_len] at HT1
  refine HT1.mono ?_
  rintro e w1 ⟨rfl, hk, hbw⟩
  have A1 : Hid (∀ b ys, Row w0 b ys → b ≠ gP → b ≠ gN → Row w1 b ys) := hk
  have A1b : Hid (∀ v0 : World, Below v0.heap.size v0 w0 → v0.heap.size ≤ gP → v0.heap.size ≤ gN → Below v0.heap.size v0 w1) := hbw
  clear hk hbw HT1
  have HA1 : Hid (Row w1 w.heap.size [.slice (some ⟨gP, 0, none⟩) R.ps.length R.ps.length, .slice (some ⟨gN, 0, none⟩) R.ns.length R.ns.length, .slice (some ⟨gU, 0, none⟩) R.up.length R.up.length, .slice (some ⟨gQ, 0, none⟩) R.pss.length R.pss.length, .slice (some ⟨gL, 0, none⟩) R.lic.length R.lic.length]) := A1.out _ _ HA0.out (by omega) (by omega)
  have P1 : Hid (Apart gP gU w w1) := ⟨fun b ys hr hb => A1.out b ys (hr.below HB0.out) (by omega) (by omega), fun v0 hb0 h0 => A1b.out v0 (below_then hb0 HB0.out) h0 (by omega), Nat.le_of_lt HA1.out.lt⟩
  have U1 : Hid (Row w1 gU (bools R.up)) := P1.out.1 _ _ H.out.rU (.inr (Nat.le_refl _))
  clear A1 A1b HA0 HR0 HB0
  have a2 := HA1.out.cell 2 _ rfl
  go_wp2_with fail
  refine (markBoolS_c gU R.up.length R.up.length (1 + R.ps.length + 4 * R.ns.length) (bools R.up) (bools_len _) hu (by omega) _ U1.out).mono ?_
  rintro e w2 ⟨rfl, hgr⟩
  have HA2 : Hid (Row w2 w.heap.size [.slice (some ⟨gP, 0, none⟩) R.ps.length R.ps.length, .slice (some ⟨gN, 0, none⟩) R.ns.length R.ns.length, .slice (some ⟨gU, 0, none⟩) R.up.length R.up.length, .slice (some ⟨gQ, 0, none⟩) R.pss.length R.pss.length, .slice (some ⟨gL, 0, none⟩) R.lic.length R.lic.length]) := HA1.out.far hgr (fun e => by have := Option.some.inj e; omega)
  have P2 : Hid (Apart gP gQ w w2) := (P1.out.wide (Nat.le_refl _) (by omega)).trans (Apart.of_grown hgr (by omega) (by omega))
  have Q2 : Hid (OPs w2 gQ R.pss hs) := H.out.oQ.keep P2.out (Nat.le_refl _)
  clear hgr a2 HA1 P1 U1
  have a3 := HA2.out.cell 3 _ rfl
  generalize hk1 : 1 + R.ps.length + 4 * R.ns.length + R.up.length = k1
  have hk1' : k1 ≤ 8388608 := by omega
  clear hk1
  go_wp2_with fail
  refine (markProfS_c gQ R.pss.length k1 gL R.pss hs HM.out.q (by omega) (by omega) H.out.last _ Q2.out).mono ?_
  rintro e w3 ⟨k2, rfl, hk2, hap⟩
  have HA3 : Hid (Row w3 w.heap.size [.slice (some ⟨gP, 0, none⟩) R.ps.length R.ps.length, .slice (some ⟨gN, 0, none⟩) R.ns.length R.ns.length, .slice (some ⟨gU, 0, none⟩) R.up.length R.up.length, .slice (some ⟨gQ, 0, none⟩) R.pss.length R.pss.length, .slice (some ⟨gL, 0, none⟩) R.lic.length R.lic.length]) := hap.1 _ _ HA2.out (.inr (by omega))
  have P3 : Hid (Apart gP gL w w3) := (P2.out.wide (Nat.le_refl _) (by omega)).trans (hap.wide (by omega) (Nat.le_refl _))
  have L3 : Hid (Row w3 gL (flat R.lic)) := P3.out.1 _ _ H.out.rL (.inr (Nat.le_refl _))
  clear hap a3 HA2 P2 Q2
  have a4 := HA3.out.cell 4 _ rfl
  go_wp2_with fail
  refine (markProf_ans (k0 := k2) (B := gL) (T := gL + 1) (AnsP.of_row (cap := R.lic.length) (flat_len R.lic) L3.out (Nat.le_refl _) (Nat.lt_succ_self _)) HM.out.l (by omega)).mono ?_
  rintro e w4 ⟨rfl, _, hap⟩
  have P4 : Hid (Apart gP (gL + 1) w w4) := (P3.out.wide (Nat.le_refl _) (by omega)).trans (Apart.wide hap (by omega) (Nat.le_refl _))
  clear hap a4
  generalize hk3 : k2 + 4 * R.lic.length = k3
  have hk3' : k3 ≤ 16777216 := by omega
  clear hk3
  go_wp2_with fail
  go_ret
  exact ⟨k3, rfl, hk3', P4.out⟩
end Go.Proofs.YtmpjebkjopfejaaGreat

namespace Go.Proofs.YtmpjebkjopfejaaGreat
open Go.ChangeShapes Go.WideShapes Go.ChangeAt Go.RowKit

set_option maxHeartbeats 1000000 in
theorem markNodeS_f (g cap n k0 : Nat) (xs : List Value) (hx : xs.length = 4 * n) (hl : n ≤ 1048576) (hk : k0 ≤ 4294967296) (w : World) (h : Row w g xs) :
    Calls Tryz.prog 67 #[.slice (some ⟨g, 0, none⟩) n cap, .int .i64 (k0 : Int)] w fun e w' => e = .returned (.int .i64 ((k0 + 4 * n : Nat) : Int)) ∧ w.grownBy w' (some g) ∧ Row w' g (upFrom k0 (4 * n)) := by
  have H : Hid (Row w g xs) := h
  clear h
  go_enter Tryz.func67, Tryz.ntmps67
  go_wp2_with fail
  go_loopw [1, 5] (fun k i wr => ∃ (j : Nat) (ys : List Value), j ≤ n ∧ i = .int .i64 j ∧ k = .int .i64 ((k0 + 4 * j : Nat) : Int) ∧ Marked ys k0 (4 * n) (4 * j) ∧ w.grownBy wr (some g) ∧ Row wr g ys) (fun _ i _ => n - (intOf i).toNat)
  case atStart => exact ⟨0, xs, Nat.zero_le _, rfl, rfl, ⟨hx, fun i _ h => by omega⟩, ⟨rfl, rfl, rfl, Nat.le_refl _, fun _ _ _ => rfl⟩, H.out⟩
  case round =>
    obtain ⟨j, ys, hj, rfl, rfl, hm, hg, hr⟩ := hrel
    have HG : Hid (w.grownBy wr (some g)) := hg
    have HR : Hid (Row wr g ys) := hr
    have HM : Hid (Marked ys k0 (4 * n) (4 * j)) := hm
    have hy : ys.length = 4 * n := hm.1
    clear hg hr hm
    by_cases hlt : j < n
    · have hi1 : (j : Int) < (n : Int) := by omega
      have hi0 : (0 : Int) ≤ (j : Int) := by omega
      have d0 := HR.out.cell (j * 4) _ (List.getElem?_eq_getElem (by omega))
      have d1 := HR.out.cell (j * 4 + 1) _ (List.getElem?_eq_getElem (by omega))
      have d2 := HR.out.cell (j * 4 + 2) _ (List.getElem?_eq_getElem (by omega))
      have d3 := HR.out.cell (j * 4 + 3) _ (List.getElem?_eq_getElem (by omega))
      have f0 := HR.out.free (j * 4)
      have f1 := HR.out.free (j * 4 + 1)
      have f2 := HR.out.free (j * 4 + 2)
      have f3 := HR.out.free (j * 4 + 3)
      generalize ys[j * 4] = y0 at d0
      generalize ys[j * 4 + 1] = y1 at d1
      generalize ys[j * 4 + 2] = y2 at d2
      generalize ys[j * 4 + 3] = y3 at d3
      have HM4 := (((HM.out.set (by omega)).set (by omega)).set (by omega)).set (by omega)
      have HN4 : Hid (Marked ((((ys.set (j * 4) (.int .i64 ((k0 : Int) + 4 * (j : Int)))).set (j * 4 + 1) (.int .i64 ((k0 : Int) + 4 * (j : Int) + 1))).set (j * 4 + 1 + 1) (.int .i64 ((k0 : Int) + 4 * (j : Int) + 1 + 1))).set (j * 4 + 1 + 2) (.int .i64 ((k0 : Int) + 4 * (j : Int) + 1 + 1 + 1))) k0 (4 * n) (4 * (j + 1))) := by
        show Marked _ _ _ _
        have e0 : 4 * j = j * 4 := by omega
        have e1 : ((k0 + 4 * j : Nat) : Int) = (k0 : Int) + 4 * (j : Int) := by omega
        have e2 : ((k0 + (4 * j + 1) : Nat) : Int) = (k0 : Int) + 4 * (j : Int) + 1 := by omega
        have e3 : ((k0 + (4 * j + 1 + 1) : Nat) : Int) = (k0 : Int) + 4 * (j : Int) + 1 + 1 := by omega
        have e4 : ((k0 + (4 * j + 1 + 1 + 1) : Nat) : Int) = (k0 : Int) + 4 * (j : Int) + 1 + 1 + 1 := by omega
        have e5 : 4 * (j + 1) = j * 4 + 1 + 1 + 1 + 1 := by omega
        rw [e1, e2, e3, e4, e0] at HM4
        rw [e5]
        exact HM4
      clear HM4
      go_wp2_with fail
      refine ⟨⟨j + 1, _, by omega, by go_num, ?_, HN4.out, Lib.grownBy_setB (Lib.grownBy_setB (Lib.grownBy_setB (Lib.grownBy_setB HG.out _ _) _ _) _ _) _ _, (((HR.out.set _ ?_ _).set _ ?_ _).set _ ?_ _).set _ ?_ _⟩, by simp [intOf]; omega⟩
      · rw [show ((k0 : Int) + 4 * (j : Int) + 1 + 1 + 1 + 1) = ((k0 + 4 * (j + 1) : Nat) : Int) by omega]
      · omega
      · simp; omega
      · simp; omega
      · simp; omega
    · obtain rfl : j = n := by omega
      have HE : Hid (ys = upFrom k0 (4 * j)) := HM.out.all (Nat.le_refl _)
      go_wp2_with fail
      go_ret
      exact ⟨rfl, HG.out, by rw [← HE.out]; exact HR.out⟩

set_option maxHeartbeats 1000000 in
theorem heldNodeS_f (g cap k0 n : Nat) (hl : n ≤ 1048576) (hk : k0 ≤ 4294967296) (w : World) (h : Row w g (upFrom k0 (4 * n))) :
    Calls Tryz.prog 70 #[.slice (some ⟨g, 0, none⟩) n cap, .int .i64 (k0 : Int)] w fun e w' => e = .returned (.int .i64 ((k0 + 4 * n : Nat) : Int)) ∧ Below w.heap.size w w' := by
  have H : Hid (Row w g (upFrom k0 (4 * n))) := h
  clear h
  go_enter Tryz.func70, Tryz.ntmps70
  go_wp2_with fail
  go_loopw [1, 5] (fun k i wr => ∃ j : Nat, j ≤ n ∧ i = .int .i64 j ∧ k = .int .i64 ((k0 + 4 * j : Nat) : Int) ∧ Below w.heap.size w wr) (fun _ i _ => n - (intOf i).toNat)
  case atStart => exact ⟨0, Nat.zero_le _, rfl, rfl, Below.refl _ _⟩
  case round =>
    obtain ⟨j, hj, rfl, rfl, hb⟩ := hrel
    have HB : Hid (Below w.heap.size w wr) := hb
    have HR : Hid (Row wr g (upFrom k0 (4 * n))) := H.out.below hb
    clear hb
    by_cases hlt : j < n
    · have hi1 : (j : Int) < (n : Int) := by omega
      have hi0 : (0 : Int) ≤ (j : Int) := by omega
      have d0 := HR.out.cell (j * 4) _ (upFrom_get k0 (4 * n) (j * 4) (by omega))
      have d1 := HR.out.cell (j * 4 + 1) _ (upFrom_get k0 (4 * n) (j * 4 + 1) (by omega))
      have d2 := HR.out.cell (j * 4 + 2) _ (upFrom_get k0 (4 * n) (j * 4 + 2) (by omega))
      have d3 := HR.out.cell (j * 4 + 3) _ (upFrom_get k0 (4 * n) (j * 4 + 3) (by omega))
      rw [show ((k0 + j * 4 : Nat) : Int) = (k0 : Int) + 4 * (j : Int) by omega] at d0
      rw [show ((k0 + (j * 4 + 1) : Nat) : Int) = (k0 : Int) + 4 * (j : Int) + 1 by omega] at d1
      rw [show ((k0 + (j * 4 + 2) : Nat) : Int) = (k0 : Int) + 4 * (j : Int) + 1 + 1 by omega] at d2
      rw [show ((k0 + (j * 4 + 3) : Nat) : Int) = (k0 : Int) + 4 * (j : Int) + 1 + 1 + 1 by omega] at d3
      rw [show ((k0 + 4 * j : Nat) : Int) = (k0 : Int) + 4 * (j : Int) by omega]
      go_wp2_with fail
      refine ⟨⟨j + 1, by omega, by go_num, ?_, HB.out⟩, by simp [intOf]; omega⟩
      rw [show ((k0 : Int) + 4 * (j : Int) + 1 + 1 + 1 + 1) = ((k0 + 4 * (j + 1) : Nat) : Int) by omega]
    · obtain rfl : j = n := by omega
      go_wp2_with fail
      go_ret
      exact ⟨rfl, HB.out⟩

/-- Only the rows of these blocks were written. -/
def Mk (S : List Nat) (w w' : World) : Prop := (∀ b ys, Row w b ys → b ∉ S → Row w' b ys) ∧ (∀ v0 : World, Below v0.heap.size v0 w → (∀ b ∈ S, v0.heap.size ≤ b) → Below v0.heap.size v0 w') ∧ w.heap.size ≤ w'.heap.size
theorem Mk.of_grown {w w' : World} {g : Nat} (h : w.grownBy w' (some g)) : Mk [g] w w' :=
  ⟨fun _ _ hr hb => hr.far h (fun e => hb (by rw [Option.some.inj e]; simp)), fun _ hb0 h0 => hb0.grown h hb0.size (fun k e => by cases e; exact h0 g (by simp)), h.size⟩
theorem Mk.of_below {w w' : World} (h : Below w.heap.size w w') : Mk [] w w' := ⟨fun _ _ hr _ => hr.below h, fun _ hb0 _ => below_then hb0 h, h.size⟩
theorem Mk.trans {S S' : List Nat} {w w' w'' : World} (h : Mk S w w') (h' : Mk S' w' w'') : Mk (S ++ S') w w'' :=
  ⟨fun b ys hr hb => h'.1 b ys (h.1 b ys hr (fun e => hb (by simp [e]))) (fun e => hb (by simp [e])), fun v0 hb0 h0 => h'.2.1 v0 (h.2.1 v0 hb0 (fun b e => h0 b (by simp [e]))) (fun b e => h0 b (by simp [e])), Nat.le_trans h.2.2 h'.2.2⟩
theorem Mk.mono {S S' : List Nat} {w w' : World} (h : Mk S w w') (hs : ∀ b ∈ S, b ∈ S') : Mk S' w w' := ⟨fun b ys hr hb => h.1 b ys hr (fun e => hb (hs b e)), fun v0 hb0 h0 => h.2.1 v0 hb0 (fun b e => h0 b (hs b e)), h.2.2⟩

def upB (k n : Nat) : List Value := (List.range n).map fun i => .bool (((k + i : Nat) : Int) % 3 == 0)
theorem upB_len (k n : Nat) : (upB k n).length = n := by simp [upB]
theorem upB_get (k n i : Nat) (h : i < n) : (upB k n)[i]? = some (.bool (((k + i : Nat) : Int) % 3 == 0)) := by simp [upB, h]
def UpB (ys : List Value) (k m : Nat) : Prop := ∀ i, i < m → ys[i]? = some (.bool (((k + i : Nat) : Int) % 3 == 0))
theorem UpB.next {ys : List Value} {k j : Nat} {K : Int} (h : UpB ys k j) (hj : j < ys.length) (hK : K = ((k + j : Nat) : Int)) : UpB (ys.set j (.bool (K % 3 == 0))) k (j + 1) := fun i hi => by
  by_cases e : i = j
  · subst e
    rw [List.getElem?_set_self hj, hK]
  · rw [List.getElem?_set_ne (fun e' => e e'.symm)]
    exact h i (by omega)
theorem UpB.all {ys : List Value} {k m : Nat} (h : UpB ys k m) (hl : ys.length = m) : ys = upB k m := by
  apply List.ext_getElem?
  intro i
  by_cases hi : i < m
  · rw [h i hi, upB_get k m i hi]
  · rw [List.getElem?_eq_none (by omega), List.getElem?_eq_none (by rw [upB_len]; omega)]

set_option maxHeartbeats 1000000 in
theorem markBoolS_f (g cap n k0 : Nat) (xs : List Value) (hx : xs.length = n) (hl : n ≤ 1048576) (hk : k0 ≤ 4294967296) (w : World) (h : Row w g xs) :
    Calls Tryz.prog 38 #[.slice (some ⟨g, 0, none⟩) n cap, .int .i64 (k0 : Int)] w fun e w' => e = .returned (.int .i64 ((k0 + n : Nat) : Int)) ∧ w.grownBy w' (some g) ∧ Row w' g (upB k0 n) := by
  have H : Hid (Row w g xs) := h
  clear h
  go_enter Tryz.func38, Tryz.ntmps38
  go_wp2_with fail
  go_loopw [1, 5] (fun k i wr => ∃ (j : Nat) (ys : List Value), j ≤ n ∧ i = .int .i64 j ∧ k = .int .i64 ((k0 + j : Nat) : Int) ∧ ys.length = n ∧ UpB ys k0 j ∧ w.grownBy wr (some g) ∧ Row wr g ys) (fun _ i _ => n - (intOf i).toNat)
  case atStart => exact ⟨0, xs, Nat.zero_le _, rfl, rfl, hx, fun i h => by omega, ⟨rfl, rfl, rfl, Nat.le_refl _, fun _ _ _ => rfl⟩, H.out⟩
  case round =>
    obtain ⟨j, ys, hj, rfl, rfl, hy, hu, hg, hr⟩ := hrel
    have HG : Hid (w.grownBy wr (some g)) := hg
    have HR : Hid (Row wr g ys) := hr
    have HU : Hid (UpB ys k0 j) := hu
    clear hg hr hu
    by_cases hlt : j < n
    · have hi1 : (j : Int) < (n : Int) := by omega
      have hi0 : (0 : Int) ≤ (j : Int) := by omega
      have d0 := HR.out.cell j _ (List.getElem?_eq_getElem (by omega))
      have f0 := HR.out.free j
      generalize ys[j] = y0 at d0
      obtain ⟨K, hK⟩ : ∃ K : Int, K = ((k0 + j : Nat) : Int) := ⟨_, rfl⟩
      rw [← hK]
      have HK : Hid (K = ((k0 + j : Nat) : Int)) := hK
      have hK0 : 0 ≤ K := by omega
      have hK1 : K ≤ 1000000000000 := by omega
      clear hK
      go_wp2_with fail
      exact ⟨⟨j + 1, _, by omega, by go_num, by have := HK.out; congr 1; omega, by simpa using hy, HU.out.next (by omega) HK.out, Lib.grownBy_setB HG.out _ _, HR.out.set _ (by omega) _⟩, by simp [intOf]; omega⟩
    · obtain rfl : j = n := by omega
      have HE : Hid (ys = upB k0 j) := HU.out.all hy
      go_wp2_with fail
      go_ret
      exact ⟨rfl, HG.out, by rw [← HE.out]; exact HR.out⟩
set_option maxHeartbeats 1000000 in
theorem heldBoolS_f (g cap n k0 : Nat) (hl : n ≤ 1048576) (hk : k0 ≤ 4294967296) (w : World) (h : Row w g (upB k0 n)) :
    Calls Tryz.prog 42 #[.slice (some ⟨g, 0, none⟩) n cap, .int .i64 (k0 : Int)] w fun e w' => e = .returned (.int .i64 ((k0 + n : Nat) : Int)) ∧ Below w.heap.size w w' := by
  have H : Hid (Row w g (upB k0 n)) := h
  clear h
  go_enter Tryz.func42, Tryz.ntmps42
  go_wp2_with fail
  go_loopw [1, 5] (fun k i wr => ∃ j : Nat, j ≤ n ∧ i = .int .i64 j ∧ k = .int .i64 ((k0 + j : Nat) : Int) ∧ Below w.heap.size w wr) (fun _ i _ => n - (intOf i).toNat)
  case atStart => exact ⟨0, Nat.zero_le _, rfl, rfl, Below.refl _ _⟩
  case round =>
    obtain ⟨j, hj, rfl, rfl, hb⟩ := hrel
    have HB : Hid (Below w.heap.size w wr) := hb
    have HR : Hid (Row wr g (upB k0 n)) := H.out.below hb
    clear hb
    by_cases hlt : j < n
    · have hi1 : (j : Int) < (n : Int) := by omega
      have hi0 : (0 : Int) ≤ (j : Int) := by omega
      have d0 := HR.out.cell j _ (upB_get k0 n j hlt)
      obtain ⟨K, hK⟩ : ∃ K : Int, K = ((k0 + j : Nat) : Int) := ⟨_, rfl⟩
      rw [← hK] at d0 ⊢
      have HK : Hid (K = ((k0 + j : Nat) : Int)) := hK
      have hK0 : 0 ≤ K := by omega
      have hK1 : K ≤ 1000000000000 := by omega
      clear hK
      cases hd : (K % 3 == 0)
      all_goals
        rw [hd] at d0
        go_wp2_with fail
        exact ⟨⟨j + 1, by omega, by go_num, by have := HK.out; congr 1; omega, HB.out⟩, by simp [intOf]; omega⟩
    · obtain rfl : j = n := by omega
      go_wp2_with fail
      go_ret
      exact ⟨rfl, HB.out⟩

set_option maxHeartbeats 2000000 in
theorem markTopo_f (gP gN n m c d k0 : Nat) (xP xN : List Value) (hP : xP.length = n) (hN : xN.length = 4 * m) (hn : n ≤ 1048576) (hm : m ≤ 1048576) (hk : k0 ≤ 4294967) (hne : gP ≠ gN) (w : World) (h : Row w gP xP) (h' : Row w gN xN) :
    Calls Tryz.prog 37 #[.agg #[.slice (some ⟨gP, 0, none⟩) n c, .slice (some ⟨gN, 0, none⟩) m d], .int .i64 (k0 : Int)] w fun e w' => e = .returned (.int .i64 ((k0 + n + 4 * m : Nat) : Int)) ∧ Row w' gP (upFrom k0 n) ∧ Row w' gN (upFrom (k0 + n) (4 * m)) ∧ Mk [gP, gN] w w' := by
  have H : Hid (Row w gP xP) := h
  have H' : Hid (Row w gN xN) := h'
  clear h h'
  go_enter Tryz.func37, Tryz.ntmps37
  go_wp2_with fail
  have HA : Hid (Row (w.alloc (.cells #[.slice (some ⟨gP, 0, none⟩) n c, .slice (some ⟨gN, 0, none⟩) m d] 40)) w.heap.size [.slice (some ⟨gP, 0, none⟩) n c, .slice (some ⟨gN, 0, none⟩) m d]) := row_fresh w [.slice (some ⟨gP, 0, none⟩) n c, .slice (some ⟨gN, 0, none⟩) m d] 40
  have M0 : Hid (Mk [] w (w.alloc (.cells #[.slice (some ⟨gP, 0, none⟩) n c, .slice (some ⟨gN, 0, none⟩) m d] 40))) := Mk.of_below (low_alloc _ _)
  have l1 := H.out.lt
  have l2 := H'.out.lt
  generalize w.alloc (.cells #[.slice (some ⟨gP, 0, none⟩) n c, .slice (some ⟨gN, 0, none⟩) m d] 40) = w0 at HA M0
  have hc := markIntS_c gP c k0 xP (by omega) (by omega) w0 (M0.out.1 _ _ H.out (by simp))
  rw [hP] at hc
  refine hc.mono ?_
  rintro e w1 ⟨rfl, hg, hr⟩
  have M1 : Hid (Mk [gP] w w1) := (M0.out.trans (Mk.of_grown hg)).mono (by simp)
  have R1 : Hid (Row w1 gP (upFrom k0 n)) := hr
  have A1 : Hid (Row w1 w.heap.size [.slice (some ⟨gP, 0, none⟩) n c, .slice (some ⟨gN, 0, none⟩) m d]) := HA.out.far hg (fun e => by have := Option.some.inj e; omega)
  clear hg hr hc HA M0
  have a1 := A1.out.cell 1 _ rfl
  go_wp2_with fail
  refine (markNodeS_f gN d m (k0 + n) xN hN hm (by omega) w1 (M1.out.1 _ _ H'.out (by simp; exact fun e => hne e.symm))).mono ?_
  rintro e w2 ⟨rfl, hg, hr⟩
  have M2 : Hid (Mk [gP, gN] w w2) := M1.out.trans (Mk.of_grown hg)
  have R2 : Hid (Row w2 gP (upFrom k0 n)) := R1.out.far hg (fun e => hne (Option.some.inj e))
  have N2 : Hid (Row w2 gN (upFrom (k0 + n) (4 * m))) := hr
  clear hg hr
  generalize hK : k0 + n + 4 * m = K
  have HK : Hid (k0 + n + 4 * m = K) := hK
  clear hK
  go_wp2_with fail
  go_ret
  exact ⟨by rw [HK.out]; rfl, R2.out, N2.out, M2.out⟩
set_option maxHeartbeats 2000000 in
theorem heldTopo_f (gP gN n m c d k0 : Nat) (hn : n ≤ 1048576) (hm : m ≤ 1048576) (hk : k0 ≤ 4294967) (w : World) (h : Row w gP (upFrom k0 n)) (h' : Row w gN (upFrom (k0 + n) (4 * m))) :
    Calls Tryz.prog 41 #[.agg #[.slice (some ⟨gP, 0, none⟩) n c, .slice (some ⟨gN, 0, none⟩) m d], .int .i64 (k0 : Int)] w fun e w' => e = .returned (.int .i64 ((k0 + n + 4 * m : Nat) : Int)) ∧ Below w.heap.size w w' := by
  have H : Hid (Row w gP (upFrom k0 n)) := h
  have H' : Hid (Row w gN (upFrom (k0 + n) (4 * m))) := h'
  clear h h'
  go_enter Tryz.func41, Tryz.ntmps41
  go_wp2_with fail
  have HA : Hid (Row (w.alloc (.cells #[.slice (some ⟨gP, 0, none⟩) n c, .slice (some ⟨gN, 0, none⟩) m d] 40)) w.heap.size [.slice (some ⟨gP, 0, none⟩) n c, .slice (some ⟨gN, 0, none⟩) m d]) := row_fresh w [.slice (some ⟨gP, 0, none⟩) n c, .slice (some ⟨gN, 0, none⟩) m d] 40
  have B0 : Hid (Below w.heap.size w (w.alloc (.cells #[.slice (some ⟨gP, 0, none⟩) n c, .slice (some ⟨gN, 0, none⟩) m d] 40))) := low_alloc _ _
  generalize w.alloc (.cells #[.slice (some ⟨gP, 0, none⟩) n c, .slice (some ⟨gN, 0, none⟩) m d] 40) = w0 at HA B0
  refine (heldIntS_c gP c k0 n (by omega) (by omega) w0 (H.out.below B0.out)).mono ?_
  rintro e w1 ⟨rfl, hb⟩
  have B1 : Hid (Below w.heap.size w w1) := below_then B0.out hb
  have A1 : Hid (Row w1 w.heap.size [.slice (some ⟨gP, 0, none⟩) n c, .slice (some ⟨gN, 0, none⟩) m d]) := HA.out.below hb
  clear hb HA B0
  have a1 := A1.out.cell 1 _ rfl
  go_wp2_with fail
  refine (heldNodeS_f gN d (k0 + n) m hm (by omega) w1 (H'.out.below B1.out)).mono ?_
  rintro e w2 ⟨rfl, hb⟩
  have B2 : Hid (Below w.heap.size w w2) := below_then B1.out hb
  clear hb
  generalize hK : k0 + n + 4 * m = K
  have HK : Hid (k0 + n + 4 * m = K) := hK
  clear hK
  go_wp2_with fail
  go_ret
  exact ⟨by rw [HK.out]; rfl, B2.out⟩
end Go.Proofs.YtmpjebkjopfejaaGreat

namespace Go.Proofs.YtmpjebkjopfejaaGreat
open Go.ChangeShapes Go.WideShapes Go.ChangeAt Go.RowKit

/-- The number ahead of the i-th profile's marks. -/
def kAt (k0 : Nat) (pss : List (List Nd)) (i : Nat) : Nat := k0 + 4 * ((pss.take i).map List.length).sum
theorem kAt_next {k0 : Nat} {pss : List (List Nd)} {i : Nat} {ns : List Nd} (h : pss[i]? = some ns) : kAt k0 pss (i + 1) = kAt k0 pss i + 4 * ns.length := by
  unfold kAt
  rw [List.take_add_one, h, Option.toList_some, List.map_append, List.sum_append, List.map_cons, List.map_nil, List.sum_cons, List.sum_nil, Nat.add_zero]
  omega
theorem kAt_le (k0 : Nat) (pss : List (List Nd)) (i : Nat) : kAt k0 pss i ≤ k0 + 4 * (pss.map List.length).sum := by
  unfold kAt
  have e : (pss.map List.length).sum = ((pss.take i).map List.length).sum + ((pss.drop i).map List.length).sum := by
    rw [← List.sum_append, ← List.map_append, List.take_append_drop]
  omega
theorem kAt_all (k0 : Nat) (pss : List (List Nd)) (i : Nat) (h : pss.length ≤ i) : kAt k0 pss i = k0 + 4 * (pss.map List.length).sum := by
  unfold kAt
  rw [List.take_of_length_le h]
theorem len_le (pss : List (List Nd)) (i : Nat) (ns : List Nd) (h : pss[i]? = some ns) : ns.length ≤ (pss.map List.length).sum := by
  have h1 := kAt_next (k0 := 0) h
  have h2 := kAt_le 0 pss (i + 1)
  omega

set_option maxHeartbeats 2000000 in
theorem markProfS_f (g cap k0 : Nat) (pss : List (List Nd)) (hs : List Nat) (tq : List Value) (hl : pss.length ≤ 1048576) (htot : (pss.map List.length).sum ≤ 1048576) (hk : k0 ≤ 16777216) (hh : hs.length = pss.length)
    (htq : ∀ (i h : Nat) ns, hs[i]? = some h → pss[i]? = some ns → ∃ c, tq[i]? = some (.slice (some ⟨h, 0, none⟩) ns.length c)) (hnd : (g :: hs).Nodup) (w : World) (hq : Row w g tq) (he : ∀ (i h : Nat) ns, hs[i]? = some h → pss[i]? = some ns → Row w h (flat ns)) :
    Calls Tryz.prog 39 #[.slice (some ⟨g, 0, none⟩) pss.length cap, .int .i64 (k0 : Int)] w fun e w' => e = .returned (.int .i64 ((k0 + 4 * (pss.map List.length).sum : Nat) : Int)) ∧
      (∀ (i h : Nat) ns, hs[i]? = some h → pss[i]? = some ns → Row w' h (upFrom (kAt k0 pss i) (4 * ns.length))) ∧ Mk hs w w' := by
  have HQ : Hid (Row w g tq) := hq
  have HE : Hid (∀ (i h : Nat) ns, hs[i]? = some h → pss[i]? = some ns → Row w h (flat ns)) := he
  have HTq : Hid (∀ (i h : Nat) ns, hs[i]? = some h → pss[i]? = some ns → ∃ c, tq[i]? = some (.slice (some ⟨h, 0, none⟩) ns.length c)) := htq
  have HN : Hid ((g :: hs).Nodup) := hnd
  have HTot : Hid ((pss.map List.length).sum ≤ 1048576) := htot
  have Hh : Hid (hs.length = pss.length) := by show _ = _; exact hh
  clear hq he htq hnd htot hh
  go_enter Tryz.func39, Tryz.ntmps39
  go_wp2_with fail
  go_loopw [1, 5] (fun k i wr => ∃ j : Nat, j ≤ pss.length ∧ i = .int .i64 j ∧ k = .int .i64 ((kAt k0 pss j : Nat) : Int) ∧ Mk hs w wr ∧ (∀ (i x : Nat) ns, j ≤ i → hs[i]? = some x → pss[i]? = some ns → Row wr x (flat ns)) ∧ (∀ (i x : Nat) ns, i < j → hs[i]? = some x → pss[i]? = some ns → Row wr x (upFrom (kAt k0 pss i) (4 * ns.length)))) (fun _ i _ => pss.length - (intOf i).toNat)
  case atStart => exact ⟨0, Nat.zero_le _, rfl, by simp [kAt], (Mk.of_below (Below.refl _ _)).mono (by simp), fun i x ns _ h1 h2 => HE.out i x ns h1 h2, fun i x ns h => by omega⟩
  case round =>
    obtain ⟨j, hj, rfl, rfl, hap, hrest, hdone⟩ := hrel
    have HAp : Hid (Mk hs w wr) := hap
    have HRs : Hid (∀ (i x : Nat) ns, j ≤ i → hs[i]? = some x → pss[i]? = some ns → Row wr x (flat ns)) := hrest
    have HDn : Hid (∀ (i x : Nat) ns, i < j → hs[i]? = some x → pss[i]? = some ns → Row wr x (upFrom (kAt k0 pss i) (4 * ns.length))) := hdone
    have hkj := kAt_le k0 pss j
    have hs1 := HTot.out
    clear hap hrest hdone
    by_cases hlt : j < pss.length
    · have hi0 : (0 : Int) ≤ (j : Int) := by omega
      have hi1 : (j : Int) < (pss.length : Int) := by omega
      have hjh : j < hs.length := by have := Hh.out; omega
      have HEj : Hid (pss[j]? = some pss[j]) := List.getElem?_eq_getElem hlt
      have HX : Hid (hs[j]? = some hs[j]) := List.getElem?_eq_getElem hjh
      have HSm : Hid (kAt k0 pss (j + 1) = kAt k0 pss j + 4 * pss[j].length) := kAt_next HEj.out
      have hnl : pss[j].length ≤ 1048576 := by have := len_le pss j _ HEj.out; omega
      obtain ⟨c, hc⟩ := HTq.out j _ _ HX.out HEj.out
      have hg : g ∉ hs := (List.nodup_cons.1 HN.out).1
      have d0 := (HAp.out.1 _ _ HQ.out hg).cell j _ hc
      have Hsep : Hid (∀ (i x : Nat), i ≠ j → hs[i]? = some x → x ≠ hs[j]) := fun i x hi hx e => by
        have hp := List.pairwise_iff_getElem.1 (List.nodup_cons.1 HN.out).2
        obtain ⟨hil, rfl⟩ := List.getElem?_eq_some_iff.1 hx
        rcases Nat.lt_or_gt_of_ne hi with h | h
        · exact hp i j hil hjh h e
        · exact hp j i hjh hil h e.symm
      have HRj : Hid (Row wr hs[j] (flat pss[j])) := HRs.out j _ _ (Nat.le_refl _) HX.out HEj.out
      have Hmem : Hid (hs[j] ∈ hs) := List.getElem_mem hjh
      generalize hs[j] = x at *
      generalize pss[j] = ns at *
      clear hc
      have HKj : Hid (∀ a b : Nat, a = kAt k0 pss j → b = a → True) := fun _ _ _ _ => trivial
      clear HKj
      generalize hS : kAt k0 pss j = S at *
      have HS : Hid (kAt k0 pss j = S) := hS
      clear hS
      go_wp2_with fail
      refine (markPtS_c x c ns.length S (flat ns) (flat_len ns) hnl (by omega) _ HRj.out).mono ?_
      rintro e w1 ⟨rfl, hgr, hr1⟩
      have HAp1 : Hid (Mk hs w w1) := (HAp.out.trans (Mk.of_grown hgr)).mono (fun b hb => by
        rcases List.mem_append.1 hb with h | h
        · exact h
        · simp at h; subst h; exact Hmem.out)
      have HRs1 : Hid (∀ (i y : Nat) ms, j + 1 ≤ i → hs[i]? = some y → pss[i]? = some ms → Row w1 y (flat ms)) := fun i y ms hi hy hm => (HRs.out i y ms (by omega) hy hm).far hgr (fun e => Hsep.out i y (by omega) hy (Option.some.inj e))
      have HDn1 : Hid (∀ (i y : Nat) ms, i < j + 1 → hs[i]? = some y → pss[i]? = some ms → Row w1 y (upFrom (kAt k0 pss i) (4 * ms.length))) := fun i y ms hi hy hm => by
        by_cases e : i = j
        · subst e
          rw [HX.out] at hy
          rw [HEj.out] at hm
          cases hy; cases hm
          rw [HS.out]
          exact hr1
        · exact (HDn.out i y ms (by omega) hy hm).far hgr (fun e' => Hsep.out i y e hy (Option.some.inj e'))
      clear hgr hr1 d0
      go_wp2_with fail
      exact ⟨⟨j + 1, by omega, by go_num, by rw [HSm.out]; rfl, HAp1.out, HRs1.out, HDn1.out⟩, by simp [intOf]; omega⟩
    · have HK : Hid (kAt k0 pss j = k0 + 4 * (pss.map List.length).sum) := kAt_all k0 pss j (by omega)
      generalize kAt k0 pss j = S at *
      go_wp2_with fail
      go_ret
      exact ⟨by rw [HK.out]; rfl, fun i x ns h1 h2 => HDn.out i x ns (by have := (List.getElem?_eq_some_iff.1 h2).1; omega) h1 h2, HAp.out⟩

set_option maxHeartbeats 2000000 in
theorem heldProfS_f (g cap k0 : Nat) (pss : List (List Nd)) (hs : List Nat) (tq : List Value) (hl : pss.length ≤ 1048576) (htot : (pss.map List.length).sum ≤ 1048576) (hk : k0 ≤ 16777216) (hh : hs.length = pss.length)
    (htq : ∀ (i h : Nat) ns, hs[i]? = some h → pss[i]? = some ns → ∃ c, tq[i]? = some (.slice (some ⟨h, 0, none⟩) ns.length c)) (w : World) (hq : Row w g tq) (he : ∀ (i h : Nat) ns, hs[i]? = some h → pss[i]? = some ns → Row w h (upFrom (kAt k0 pss i) (4 * ns.length))) :
    Calls Tryz.prog 43 #[.slice (some ⟨g, 0, none⟩) pss.length cap, .int .i64 (k0 : Int)] w fun e w' => e = .returned (.int .i64 ((k0 + 4 * (pss.map List.length).sum : Nat) : Int)) ∧ Below w.heap.size w w' := by
  have HQ : Hid (Row w g tq) := hq
  have HE : Hid (∀ (i h : Nat) ns, hs[i]? = some h → pss[i]? = some ns → Row w h (upFrom (kAt k0 pss i) (4 * ns.length))) := he
  have HTq : Hid (∀ (i h : Nat) ns, hs[i]? = some h → pss[i]? = some ns → ∃ c, tq[i]? = some (.slice (some ⟨h, 0, none⟩) ns.length c)) := htq
  have HTot : Hid ((pss.map List.length).sum ≤ 1048576) := htot
  have Hh : Hid (hs.length = pss.length) := by show _ = _; exact hh
  clear hq he htq htot hh
  go_enter Tryz.func43, Tryz.ntmps43
  go_wp2_with fail
  go_loopw [1, 5] (fun k i wr => ∃ j : Nat, j ≤ pss.length ∧ i = .int .i64 j ∧ k = .int .i64 ((kAt k0 pss j : Nat) : Int) ∧ Below w.heap.size w wr) (fun _ i _ => pss.length - (intOf i).toNat)
  case atStart => exact ⟨0, Nat.zero_le _, rfl, by simp [kAt], Below.refl _ _⟩
  case round =>
    obtain ⟨j, hj, rfl, rfl, hb⟩ := hrel
    have HB : Hid (Below w.heap.size w wr) := hb
    have hkj := kAt_le k0 pss j
    have hs1 := HTot.out
    clear hb
    by_cases hlt : j < pss.length
    · have hi0 : (0 : Int) ≤ (j : Int) := by omega
      have hi1 : (j : Int) < (pss.length : Int) := by omega
      have hjh : j < hs.length := by have := Hh.out; omega
      have HEj : Hid (pss[j]? = some pss[j]) := List.getElem?_eq_getElem hlt
      have HX : Hid (hs[j]? = some hs[j]) := List.getElem?_eq_getElem hjh
      have HSm : Hid (kAt k0 pss (j + 1) = kAt k0 pss j + 4 * pss[j].length) := kAt_next HEj.out
      have hnl : pss[j].length ≤ 1048576 := by have := len_le pss j _ HEj.out; omega
      obtain ⟨c, hc⟩ := HTq.out j _ _ HX.out HEj.out
      have d0 := (HQ.out.below HB.out).cell j _ hc
      have HRj : Hid (Row wr hs[j] (upFrom (kAt k0 pss j) (4 * pss[j].length))) := (HE.out j _ _ HX.out HEj.out).below HB.out
      generalize hs[j] = x at *
      generalize pss[j] = ns at *
      clear hc
      generalize kAt k0 pss j = S at *
      go_wp2_with fail
      refine (heldPtS_c x c S ns.length hnl (by omega) _ HRj.out).mono ?_
      rintro e w1 ⟨rfl, hb⟩
      have HB1 : Hid (Below w.heap.size w w1) := below_then HB.out hb
      clear hb d0
      generalize hM : S + 4 * ns.length = M at *
      have hM0 : (0 : Int) ≤ (M : Int) := by omega
      have HM : Hid (kAt k0 pss (j + 1) = M) := by show _ = _; rw [HSm.out]
      clear hM
      go_wp2_with fail
      exact ⟨⟨j + 1, by omega, by go_num, by rw [HM.out], HB1.out⟩, by simp [intOf]; omega⟩
    · have HK : Hid (kAt k0 pss j = k0 + 4 * (pss.map List.length).sum) := kAt_all k0 pss j (by omega)
      generalize kAt k0 pss j = S at *
      go_wp2_with fail
      go_ret
      exact ⟨by rw [HK.out]; rfl, HB.out⟩
end Go.Proofs.YtmpjebkjopfejaaGreat

namespace Go.Proofs.YtmpjebkjopfejaaGreat
open Go.ChangeShapes Go.WideShapes Go.ChangeAt Go.RowKit

/-- Where a room that owns its memory lies. -/
structure RK where
  (gP gN gU gQ gL : Nat) (hs : List Nat) (cP cN cU cQ cL : Nat) (tq : List Value)
def RK.blocks (K : RK) : List Nat := K.gP :: K.gN :: K.gU :: K.gQ :: K.gL :: K.hs
/-- How it lies there, apart from what the cells hold. -/
structure RStat (R : Rm) (K : RK) (B T : Nat) : Prop where
  hh : K.hs.length = R.pss.length
  tqs : ∀ (i h : Nat) ns, K.hs[i]? = some h → R.pss[i]? = some ns → ∃ c, K.tq[i]? = some (.slice (some ⟨h, 0, none⟩) ns.length c)
  rng : ∀ b ∈ K.blocks, B ≤ b ∧ b < T
  nd : K.blocks.Nodup
structure RX (w : World) (R : Rm) (K : RK) : Prop where
  rP : Row w K.gP (ints R.ps)
  rN : Row w K.gN (flat R.ns)
  rU : Row w K.gU (bools R.up)
  rQ : Row w K.gQ K.tq
  each : ∀ (i h : Nat) ns, K.hs[i]? = some h → R.pss[i]? = some ns → Row w h (flat ns)
  rL : Row w K.gL (flat R.lic)
def kU (R : Rm) : Nat := 1 + R.ps.length + 4 * R.ns.length
def kQ (R : Rm) : Nat := kU R + R.up.length
def kL (R : Rm) : Nat := kQ R + 4 * (R.pss.map List.length).sum
def kEnd (R : Rm) : Nat := kL R + 4 * R.lic.length
/-- .. marked. -/
structure RMk (w : World) (R : Rm) (K : RK) : Prop where
  rP : Row w K.gP (upFrom 1 R.ps.length)
  rN : Row w K.gN (upFrom (1 + R.ps.length) (4 * R.ns.length))
  rU : Row w K.gU (upB (kU R) R.up.length)
  rQ : Row w K.gQ K.tq
  each : ∀ (i h : Nat) ns, K.hs[i]? = some h → R.pss[i]? = some ns → Row w h (upFrom (kAt (kQ R) R.pss i) (4 * ns.length))
  rL : Row w K.gL (upFrom (kL R) (4 * R.lic.length))
theorem RX.below {w w' : World} {R : Rm} {K : RK} (h : RX w R K) (hb : Below w.heap.size w w') : RX w' R K := ⟨h.rP.below hb, h.rN.below hb, h.rU.below hb, h.rQ.below hb, fun i x ns h1 h2 => (h.each i x ns h1 h2).below hb, h.rL.below hb⟩
theorem RMk.below {w w' : World} {R : Rm} {K : RK} (h : RMk w R K) (hb : Below w.heap.size w w') : RMk w' R K := ⟨h.rP.below hb, h.rN.below hb, h.rU.below hb, h.rQ.below hb, fun i x ns h1 h2 => (h.each i x ns h1 h2).below hb, h.rL.below hb⟩
theorem mem_bl {K : RK} {i h : Nat} (hi : K.hs[i]? = some h) : h ∈ K.blocks := by simp [RK.blocks, List.mem_of_getElem? hi]
/-- What keeps these rows keeps the room. -/
theorem RX.keep {w w' : World} {R : Rm} {K : RK} (h : RX w R K) (hk : ∀ b ∈ K.blocks, ∀ ys, Row w b ys → Row w' b ys) : RX w' R K :=
  ⟨hk _ (by simp [RK.blocks]) _ h.rP, hk _ (by simp [RK.blocks]) _ h.rN, hk _ (by simp [RK.blocks]) _ h.rU, hk _ (by simp [RK.blocks]) _ h.rQ, fun i x ns h1 h2 => hk _ (mem_bl h1) _ (h.each i x ns h1 h2), hk _ (by simp [RK.blocks]) _ h.rL⟩
def RK.ra (K : RK) : Ra := ⟨some ⟨K.gP, 0, none⟩, some ⟨K.gN, 0, none⟩, some ⟨K.gU, 0, none⟩, some ⟨K.gQ, 0, none⟩, some ⟨K.gL, 0, none⟩, K.cP, K.cN, K.cU, K.cQ, K.cL⟩
theorem RX.rat {w : World} {R : Rm} {K : RK} {B T : Nat} (h : RX w R K) (hs : RStat R K B T) : RAt w K.ra R :=
  ⟨Sq.of_row h.rP, Sq.of_row h.rN, Sq.of_row h.rU, ⟨fun i ns hi => by
    have hl : i < K.hs.length := by rw [hs.hh]; exact (List.getElem?_eq_some_iff.1 hi).1
    have hx : K.hs[i]? = some K.hs[i] := List.getElem?_eq_getElem hl
    obtain ⟨c, hc⟩ := hs.tqs i _ ns hx hi
    refine ⟨⟨K.gQ, 0, none⟩, some ⟨K.hs[i], 0, none⟩, c, rfl, h.rQ.lt, ?_, Sq.of_row (h.each i _ ns hx hi)⟩
    have e : (⟨K.gQ, 0, none⟩ : Addr).add i = ⟨K.gQ, i, none⟩ := by unfold Addr.add; split <;> simp_all
    rw [e]
    exact h.rQ.cell i _ hc⟩, Sq.of_row h.rL⟩

set_option maxHeartbeats 4000000 in
theorem markRoom_f (R : Rm) (K : RK) (B T : Nat) (hs : RStat R K B T) (hsm : RSmall R) (htot : RTot R) (hlic : 0 < R.lic.length) (w : World) (h : RX w R K) :
    Calls Tryz.prog 13 #[.agg #[.slice (some ⟨K.gP, 0, none⟩) R.ps.length K.cP, .slice (some ⟨K.gN, 0, none⟩) R.ns.length K.cN, .slice (some ⟨K.gU, 0, none⟩) R.up.length K.cU, .slice (some ⟨K.gQ, 0, none⟩) R.pss.length K.cQ, .slice (some ⟨K.gL, 0, none⟩) R.lic.length K.cL], .int .i64 1] w fun e w' => e = .returned (.int .i64 ((kEnd R : Nat) : Int)) ∧ RMk w' R K ∧ Mk K.blocks w w' := by
  have H : Hid (RX w R K) := h
  have HS : Hid (RStat R K B T) := hs
  have HM : Hid (RSmall R) := hsm
  have t1 : R.ps.length + R.ns.length + R.up.length + R.pss.length + (R.pss.map List.length).sum + R.lic.length ≤ 1048576 := htot
  have hnd := hs.nd
  unfold RK.blocks at hnd
  simp only [List.nodup_cons, List.mem_cons, not_or] at hnd
  obtain ⟨⟨pN, pU, pQ, pL, pH⟩, ⟨nU, nQ, nL, nH⟩, ⟨uQ, uL, uH⟩, ⟨qL, qH⟩, lH, ndH⟩ := hnd
  have HpN : Hid (K.gP ≠ K.gN) := pN
  have HnQ : Hid ((K.gQ :: K.hs).Nodup) := List.nodup_cons.2 ⟨qH, ndH⟩
  have kp : K.gP < w.heap.size := h.rP.lt
  have kn : K.gN < w.heap.size := h.rN.lt
  have ku : K.gU < w.heap.size := h.rU.lt
  have kh : ∀ x ∈ K.hs, x < w.heap.size := fun x hx => by
    obtain ⟨i, hi⟩ := List.getElem?_of_mem hx
    have hil : i < R.pss.length := by rw [← hs.hh]; exact (List.getElem?_eq_some_iff.1 hi).1
    exact (h.each i x _ hi (List.getElem?_eq_getElem hil)).lt
  have Hkh : Hid (∀ x ∈ K.hs, x < w.heap.size) := kh
  have HD : Hid ((K.gU ∉ [K.gP, K.gN]) ∧ (∀ x ∈ K.gQ :: K.gL :: K.hs, x ∉ [K.gP, K.gN, K.gU]) ∧ (K.gL ∉ K.hs) ∧ (∀ x ∈ [K.gP, K.gN, K.gU, K.gQ], x ∉ K.hs) ∧ (∀ x ∈ K.gP :: K.gN :: K.gU :: K.gQ :: K.hs, x ≠ K.gL)) := by
    refine ⟨?_, ?_, lH, ?_, ?_⟩
    · simp; exact ⟨fun e => pU e.symm, fun e => nU e.symm⟩
    · intro x hx
      simp only [List.mem_cons, List.not_mem_nil, or_false, not_or] at hx ⊢
      rcases hx with rfl | rfl | hx
      · exact ⟨fun e => pQ e.symm, fun e => nQ e.symm, fun e => uQ e.symm⟩
      · exact ⟨fun e => pL e.symm, fun e => nL e.symm, fun e => uL e.symm⟩
      · exact ⟨fun e => pH (e ▸ hx), fun e => nH (e ▸ hx), fun e => uH (e ▸ hx)⟩
    · intro x hx
      simp only [List.mem_cons, List.not_mem_nil, or_false] at hx
      rcases hx with rfl | rfl | rfl | rfl
      · exact pH
      · exact nH
      · exact uH
      · exact qH
    · intro x hx
      simp only [List.mem_cons] at hx
      rcases hx with rfl | rfl | rfl | rfl | hx
      · exact pL
      · exact nL
      · exact uL
      · exact qL
      · exact fun e => lH (e ▸ hx)
  have hu := hsm.u
  have hp := hsm.p
  have hn := hsm.n
  have k1 : kU R = 1 + R.ps.length + 4 * R.ns.length := rfl
  have k2 : kQ R = kU R + R.up.length := rfl
  have k3 : kL R = kQ R + 4 * (R.pss.map List.length).sum := rfl
  have k4 : kEnd R = kL R + 4 * R.lic.length := rfl
  have ltL : K.gL < w.heap.size := h.rL.lt
  have ltQ : K.gQ < w.heap.size := h.rQ.lt
  clear h hsm htot hs pN pU pQ pL pH nU nQ nL nH uQ uL uH qL qH lH ndH kh
  go_enter Tryz.func13, Tryz.ntmps13
  go_wp2_with fail
  have HA0 : Hid (Row (w.alloc (.cells #[.slice (some ⟨K.gP, 0, none⟩) R.ps.length K.cP, .slice (some ⟨K.gN, 0, none⟩) R.ns.length K.cN, .slice (some ⟨K.gU, 0, none⟩) R.up.length K.cU, .slice (some ⟨K.gQ, 0, none⟩) R.pss.length K.cQ, .slice (some ⟨K.gL, 0, none⟩) R.lic.length K.cL] 46)) w.heap.size [.slice (some ⟨K.gP, 0, none⟩) R.ps.length K.cP, .slice (some ⟨K.gN, 0, none⟩) R.ns.length K.cN, .slice (some ⟨K.gU, 0, none⟩) R.up.length K.cU, .slice (some ⟨K.gQ, 0, none⟩) R.pss.length K.cQ, .slice (some ⟨K.gL, 0, none⟩) R.lic.length K.cL]) := row_fresh w [.slice (some ⟨K.gP, 0, none⟩) R.ps.length K.cP, .slice (some ⟨K.gN, 0, none⟩) R.ns.length K.cN, .slice (some ⟨K.gU, 0, none⟩) R.up.length K.cU, .slice (some ⟨K.gQ, 0, none⟩) R.pss.length K.cQ, .slice (some ⟨K.gL, 0, none⟩) R.lic.length K.cL] 46
  have M0 : Hid (Mk [] w (w.alloc (.cells #[.slice (some ⟨K.gP, 0, none⟩) R.ps.length K.cP, .slice (some ⟨K.gN, 0, none⟩) R.ns.length K.cN, .slice (some ⟨K.gU, 0, none⟩) R.up.length K.cU, .slice (some ⟨K.gQ, 0, none⟩) R.pss.length K.cQ, .slice (some ⟨K.gL, 0, none⟩) R.lic.length K.cL] 46))) := Mk.of_below (low_alloc _ _)
  generalize w.alloc (.cells #[.slice (some ⟨K.gP, 0, none⟩) R.ps.length K.cP, .slice (some ⟨K.gN, 0, none⟩) R.ns.length K.cN, .slice (some ⟨K.gU, 0, none⟩) R.up.length K.cU, .slice (some ⟨K.gQ, 0, none⟩) R.pss.length K.cQ, .slice (some ⟨K.gL, 0, none⟩) R.lic.length K.cL] 46) = w0 at HA0 M0
  refine (markTopo_f K.gP K.gN R.ps.length R.ns.length K.cP K.cN 1 (ints R.ps) (flat R.ns) (ints_len _) (flat_len _) hp hn (by omega) HpN.out w0 (M0.out.1 _ _ H.out.rP (by simp)) (M0.out.1 _ _ H.out.rN (by simp))).mono ?_
  rintro e w1 ⟨rfl, hr1, hr2, hm⟩
  have M1 : Hid (Mk [K.gP, K.gN] w w1) := (M0.out.trans hm).mono (by simp)
  have P1 : Hid (Row w1 K.gP (upFrom 1 R.ps.length)) := hr1
  have N1 : Hid (Row w1 K.gN (upFrom (1 + R.ps.length) (4 * R.ns.length))) := hr2
  have A1 : Hid (Row w1 w.heap.size [.slice (some ⟨K.gP, 0, none⟩) R.ps.length K.cP, .slice (some ⟨K.gN, 0, none⟩) R.ns.length K.cN, .slice (some ⟨K.gU, 0, none⟩) R.up.length K.cU, .slice (some ⟨K.gQ, 0, none⟩) R.pss.length K.cQ, .slice (some ⟨K.gL, 0, none⟩) R.lic.length K.cL]) := hm.1 _ _ HA0.out (by simp; omega)
  clear hr1 hr2 hm HA0 M0
  have a2 := A1.out.cell 2 _ rfl
  rw [← k1]
  go_wp2_with fail
  refine (markBoolS_f K.gU K.cU R.up.length (kU R) (bools R.up) (bools_len _) hu (by omega) _ (M1.out.1 _ _ H.out.rU HD.out.1)).mono ?_
  rintro e w2 ⟨rfl, hg, hr⟩
  have M2 : Hid (Mk [K.gP, K.gN, K.gU] w w2) := M1.out.trans (Mk.of_grown hg)
  have hD1 := HD.out.1
  have P2 : Hid (Row w2 K.gP (upFrom 1 R.ps.length)) := P1.out.far hg (fun e => hD1 (by rw [← Option.some.inj e]; simp))
  have N2 : Hid (Row w2 K.gN (upFrom (1 + R.ps.length) (4 * R.ns.length))) := N1.out.far hg (fun e => hD1 (by rw [← Option.some.inj e]; simp))
  have U2 : Hid (Row w2 K.gU (upB (kU R) R.up.length)) := hr
  have A2 : Hid (Row w2 w.heap.size [.slice (some ⟨K.gP, 0, none⟩) R.ps.length K.cP, .slice (some ⟨K.gN, 0, none⟩) R.ns.length K.cN, .slice (some ⟨K.gU, 0, none⟩) R.up.length K.cU, .slice (some ⟨K.gQ, 0, none⟩) R.pss.length K.cQ, .slice (some ⟨K.gL, 0, none⟩) R.lic.length K.cL]) := A1.out.far hg (fun e => by have := Option.some.inj e; omega)
  clear hg hr a2 A1 P1 N1 M1 hD1
  have a3 := A2.out.cell 3 _ rfl
  rw [← k2]
  go_wp2_with fail
  refine (markProfS_f K.gQ K.cQ (kQ R) R.pss K.hs K.tq HM.out.q (by omega) (by omega) HS.out.hh HS.out.tqs HnQ.out _ (M2.out.1 _ _ H.out.rQ (HD.out.2.1 _ (by simp))) (fun i x ns h1 h2 => M2.out.1 _ _ (H.out.each i x ns h1 h2) (HD.out.2.1 _ (by simp [List.mem_of_getElem? h1])))).mono ?_
  rintro e w3 ⟨rfl, hr, hm⟩
  have M3 : Hid (Mk ([K.gP, K.gN, K.gU] ++ K.hs) w w3) := M2.out.trans hm
  have P3 : Hid (Row w3 K.gP (upFrom 1 R.ps.length)) := hm.1 _ _ P2.out (HD.out.2.2.2.1 _ (by simp))
  have N3 : Hid (Row w3 K.gN (upFrom (1 + R.ps.length) (4 * R.ns.length))) := hm.1 _ _ N2.out (HD.out.2.2.2.1 _ (by simp))
  have U3 : Hid (Row w3 K.gU (upB (kU R) R.up.length)) := hm.1 _ _ U2.out (HD.out.2.2.2.1 _ (by simp))
  have Q3 : Hid (Row w3 K.gQ K.tq) := M3.out.1 _ _ H.out.rQ (fun hx => by
    rcases List.mem_append.1 hx with h | h
    · exact HD.out.2.1 _ (by simp) h
    · exact HD.out.2.2.2.1 K.gQ (by simp) h)
  have E3 : Hid (∀ (i h : Nat) ns, K.hs[i]? = some h → R.pss[i]? = some ns → Row w3 h (upFrom (kAt (kQ R) R.pss i) (4 * ns.length))) := hr
  have L3 : Hid (Row w3 K.gL (flat R.lic)) := M3.out.1 _ _ H.out.rL (fun hx => by
    rcases List.mem_append.1 hx with h | h
    · exact HD.out.2.1 _ (by simp) h
    · exact HD.out.2.2.1 h)
  have A3 : Hid (Row w3 w.heap.size [.slice (some ⟨K.gP, 0, none⟩) R.ps.length K.cP, .slice (some ⟨K.gN, 0, none⟩) R.ns.length K.cN, .slice (some ⟨K.gU, 0, none⟩) R.up.length K.cU, .slice (some ⟨K.gQ, 0, none⟩) R.pss.length K.cQ, .slice (some ⟨K.gL, 0, none⟩) R.lic.length K.cL]) := hm.1 _ _ A2.out (fun hx => by have := Hkh.out _ hx; omega)
  clear hr hm a3 A2 P2 N2 U2 M2
  have a4 := A3.out.cell 4 _ rfl
  rw [← k3]
  go_wp2_with fail
  refine (markProf_ans (k0 := kL R) (B := K.gL) (T := K.gL + 1) (AnsP.of_row (cap := K.cL) (flat_len R.lic) L3.out (Nat.le_refl _) (Nat.lt_succ_self _)) HM.out.l (by omega)).mono ?_
  rintro e w4 ⟨rfl, hans, hap⟩
  have L4 : Hid (Row w4 K.gL (upFrom (kL R) (4 * R.lic.length))) := by
    obtain ⟨_, a', cap', hv, h0⟩ := hans
    cases hv
    rcases h0 with h0 | ⟨g', hg', _, _, hr⟩
    · omega
    · cases hg'
      exact hr
  have keep : ∀ b ys, Row w3 b ys → b ≠ K.gL → Row w4 b ys := fun b ys hr hb => hap.1 b ys hr (by omega)
  have M4 : Hid (Mk K.blocks w w4) := by
    have h1 : Mk [K.gL] w3 w4 := ⟨fun b ys hr hb => keep b ys hr (by simpa using hb), fun v0 hb0 h0 => hap.2.1 v0 hb0 (h0 K.gL (by simp)), hap.2.2⟩
    refine (M3.out.trans h1).mono (fun b hb => ?_)
    simp only [List.mem_append, List.mem_cons, List.not_mem_nil, or_false, RK.blocks] at hb ⊢
    rcases hb with ((h | h | h) | h) | h <;> simp [h]
  have D5 := HD.out.2.2.2.2
  have Z4 : Hid (RMk w4 R K) := ⟨keep _ _ P3.out (D5 _ (by simp)), keep _ _ N3.out (D5 _ (by simp)), keep _ _ U3.out (D5 _ (by simp)), keep _ _ Q3.out (D5 _ (by simp)), fun i x ns h1 h2 => keep _ _ (E3.out i x ns h1 h2) (D5 _ (by simp [List.mem_of_getElem? h1])), L4.out⟩
  clear keep hans hap a4 A3 P3 N3 U3 Q3 E3 L3 L4 M3 D5
  rw [← k4]
  generalize kEnd R = k at *
  go_wp2_with fail
  go_ret
  exact ⟨rfl, Z4.out, M4.out⟩
set_option maxHeartbeats 4000000 in
theorem heldRoom_f (R : Rm) (K : RK) (B T : Nat) (hs : RStat R K B T) (hsm : RSmall R) (htot : RTot R) (w : World) (h : RMk w R K) :
    Calls Tryz.prog 15 #[.agg #[.slice (some ⟨K.gP, 0, none⟩) R.ps.length K.cP, .slice (some ⟨K.gN, 0, none⟩) R.ns.length K.cN, .slice (some ⟨K.gU, 0, none⟩) R.up.length K.cU, .slice (some ⟨K.gQ, 0, none⟩) R.pss.length K.cQ, .slice (some ⟨K.gL, 0, none⟩) R.lic.length K.cL], .int .i64 1] w fun e w' => e = .returned (.int .i64 ((kEnd R : Nat) : Int)) ∧ Below w.heap.size w w' := by
  have H : Hid (RMk w R K) := h
  have HS : Hid (RStat R K B T) := hs
  have HM : Hid (RSmall R) := hsm
  have t1 : R.ps.length + R.ns.length + R.up.length + R.pss.length + (R.pss.map List.length).sum + R.lic.length ≤ 1048576 := htot
  have hu := hsm.u
  have hp := hsm.p
  have hn := hsm.n
  have k1 : kU R = 1 + R.ps.length + 4 * R.ns.length := rfl
  have k2 : kQ R = kU R + R.up.length := rfl
  have k3 : kL R = kQ R + 4 * (R.pss.map List.length).sum := rfl
  have k4 : kEnd R = kL R + 4 * R.lic.length := rfl
  clear h hsm htot hs
  go_enter Tryz.func15, Tryz.ntmps15
  go_wp2_with fail
  have HA0 : Hid (Row (w.alloc (.cells #[.slice (some ⟨K.gP, 0, none⟩) R.ps.length K.cP, .slice (some ⟨K.gN, 0, none⟩) R.ns.length K.cN, .slice (some ⟨K.gU, 0, none⟩) R.up.length K.cU, .slice (some ⟨K.gQ, 0, none⟩) R.pss.length K.cQ, .slice (some ⟨K.gL, 0, none⟩) R.lic.length K.cL] 46)) w.heap.size [.slice (some ⟨K.gP, 0, none⟩) R.ps.length K.cP, .slice (some ⟨K.gN, 0, none⟩) R.ns.length K.cN, .slice (some ⟨K.gU, 0, none⟩) R.up.length K.cU, .slice (some ⟨K.gQ, 0, none⟩) R.pss.length K.cQ, .slice (some ⟨K.gL, 0, none⟩) R.lic.length K.cL]) := row_fresh w [.slice (some ⟨K.gP, 0, none⟩) R.ps.length K.cP, .slice (some ⟨K.gN, 0, none⟩) R.ns.length K.cN, .slice (some ⟨K.gU, 0, none⟩) R.up.length K.cU, .slice (some ⟨K.gQ, 0, none⟩) R.pss.length K.cQ, .slice (some ⟨K.gL, 0, none⟩) R.lic.length K.cL] 46
  have B0 : Hid (Below w.heap.size w (w.alloc (.cells #[.slice (some ⟨K.gP, 0, none⟩) R.ps.length K.cP, .slice (some ⟨K.gN, 0, none⟩) R.ns.length K.cN, .slice (some ⟨K.gU, 0, none⟩) R.up.length K.cU, .slice (some ⟨K.gQ, 0, none⟩) R.pss.length K.cQ, .slice (some ⟨K.gL, 0, none⟩) R.lic.length K.cL] 46))) := low_alloc _ _
  generalize w.alloc (.cells #[.slice (some ⟨K.gP, 0, none⟩) R.ps.length K.cP, .slice (some ⟨K.gN, 0, none⟩) R.ns.length K.cN, .slice (some ⟨K.gU, 0, none⟩) R.up.length K.cU, .slice (some ⟨K.gQ, 0, none⟩) R.pss.length K.cQ, .slice (some ⟨K.gL, 0, none⟩) R.lic.length K.cL] 46) = w0 at HA0 B0
  refine (heldTopo_f K.gP K.gN R.ps.length R.ns.length K.cP K.cN 1 hp hn (by omega) w0 (H.out.rP.below B0.out) (H.out.rN.below B0.out)).mono ?_
  rintro e w1 ⟨rfl, hb⟩
  have B1 : Hid (Below w.heap.size w w1) := below_then B0.out hb
  have A1 : Hid (Row w1 w.heap.size [.slice (some ⟨K.gP, 0, none⟩) R.ps.length K.cP, .slice (some ⟨K.gN, 0, none⟩) R.ns.length K.cN, .slice (some ⟨K.gU, 0, none⟩) R.up.length K.cU, .slice (some ⟨K.gQ, 0, none⟩) R.pss.length K.cQ, .slice (some ⟨K.gL, 0, none⟩) R.lic.length K.cL]) := HA0.out.below hb
  clear hb HA0 B0
  have a2 := A1.out.cell 2 _ rfl
  rw [← k1]
  have HU := H.out.rU
  have hb2 := heldBoolS_f K.gU K.cU R.up.length (kU R) hu (by omega) w1 (HU.below B1.out)
  clear HU
  generalize hkU : kU R = c1 at hb2 k1 k2 ⊢
  have hc1 : (0 : Int) ≤ (c1 : Int) := by omega
  have hc1' : c1 ≤ 8388608 := by omega
  have K2 : Hid (kQ R = c1 + R.up.length) := k2
  have K3 : Hid (kL R = kQ R + 4 * (R.pss.map List.length).sum) := k3
  have K4 : Hid (kEnd R = kL R + 4 * R.lic.length) := k4
  clear k1 k2 k3 k4 hkU
  go_wp2_with fail
  refine hb2.mono ?_
  rintro e w2 ⟨rfl, hb⟩
  have B2 : Hid (Below w.heap.size w w2) := below_then B1.out hb
  have A2 : Hid (Row w2 w.heap.size [.slice (some ⟨K.gP, 0, none⟩) R.ps.length K.cP, .slice (some ⟨K.gN, 0, none⟩) R.ns.length K.cN, .slice (some ⟨K.gU, 0, none⟩) R.up.length K.cU, .slice (some ⟨K.gQ, 0, none⟩) R.pss.length K.cQ, .slice (some ⟨K.gL, 0, none⟩) R.lic.length K.cL]) := A1.out.below hb
  clear hb a2 A1 B1 hb2
  have a3 := A2.out.cell 3 _ rfl
  have k2 := K2.out
  rw [← k2]
  have hb3 := heldProfS_f K.gQ K.cQ (kQ R) R.pss K.hs K.tq HM.out.q (by omega) (by omega) HS.out.hh HS.out.tqs w2 (H.out.rQ.below B2.out) (fun i x ns h1 h2 => (H.out.each i x ns h1 h2).below B2.out)
  have k3 := K3.out
  clear K2 K3
  generalize hkQ : kQ R = c2 at hb3 k2 k3 ⊢
  have hc2 : (0 : Int) ≤ (c2 : Int) := by omega
  have hc2' : c2 ≤ 16777216 := by omega
  have K3 : Hid (kL R = c2 + 4 * (R.pss.map List.length).sum) := k3
  clear k2 k3 hkQ
  go_wp2_with fail
  refine hb3.mono ?_
  rintro e w3 ⟨rfl, hb⟩
  have B3 : Hid (Below w.heap.size w w3) := below_then B2.out hb
  have A3 : Hid (Row w3 w.heap.size [.slice (some ⟨K.gP, 0, none⟩) R.ps.length K.cP, .slice (some ⟨K.gN, 0, none⟩) R.ns.length K.cN, .slice (some ⟨K.gU, 0, none⟩) R.up.length K.cU, .slice (some ⟨K.gQ, 0, none⟩) R.pss.length K.cQ, .slice (some ⟨K.gL, 0, none⟩) R.lic.length K.cL]) := A2.out.below hb
  clear hb a3 A2 B2 hb3
  have a4 := A3.out.cell 4 _ rfl
  have k3 := K3.out
  rw [← k3]
  have hb4 := heldProf_ans (k0 := kL R) (n := R.lic.length) (v := .slice (some ⟨K.gL, 0, none⟩) R.lic.length K.cL) (B := K.gL) (T := K.gL + 1) (AnsP.of_row (cap := K.cL) (upFrom_len _ _) (H.out.rL.below B3.out) (Nat.le_refl _) (Nat.lt_succ_self _)) HM.out.l (by omega)
  have k4 := K4.out
  clear K3 K4
  generalize hkL : kL R = c3 at hb4 k3 k4 ⊢
  have hc3 : (0 : Int) ≤ (c3 : Int) := by omega
  have K4 : Hid (kEnd R = c3 + 4 * R.lic.length) := k4
  clear k3 k4 hkL
  go_wp2_with fail
  refine hb4.mono ?_
  rintro e w4 ⟨rfl, hb⟩
  have B4 : Hid (Below w.heap.size w w4) := below_then B3.out hb
  clear hb a4 A3 B3 hb4
  rw [← K4.out]
  have hk0 : (0 : Int) ≤ ((kEnd R : Nat) : Int) := by omega
  generalize hke : kEnd R = k at hk0 ⊢
  have HKe : Hid (kEnd R = k) := hke
  clear hke K4
  go_wp2_with fail
  go_ret
  exact ⟨by rw [HKe.out]; rfl, B4.out⟩
end Go.Proofs.YtmpjebkjopfejaaGreat
