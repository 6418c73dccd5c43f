/- A heap that grows: the program's push; dues copied. -/
import Derived.Test.YtdmmjggkdkmeaaaHqD
import Derived.Deep.AppendLies
import Derived.Deep.RegionLaw
import Derived.Lib.SliceRun
namespace Go.Proofs.Ytdmmjggkdkmeaaa
open Go.ChangeShapes Go.WideShapes Go.ChangeAt Go.RowKit

set_option maxHeartbeats 1000000 in
theorem cloneD_c (b : Option Addr) (D : Nat) (l : List Du) (hl : l.length ≤ 1048576) (w : World) (h : Sq w b (flatD l)) :
    Calls Try.prog 36 #[.slice b l.length D] w fun e w' => ∃ v, e = .returned v ∧ w'.ownsRow w.heap.size 30 2 v l.length (flatD l) ∧ Below w.heap.size w w' := by
  have H : Hid (Sq w b (flatD l)) := h
  clear h
  cases b with
  | none =>
    have hl0 : l = [] := by
      cases l with
      | nil => rfl
      | cons a r =>
        obtain ⟨p, hp, _⟩ := H.out.cell 0 _ rfl
        cases hp
    subst hl0
    have heq : ∀ W : World, (binOp .eql 23 (.slice none 0 D) (.slice none 0 0)).run Try.prog W = .ok (.bool true) W := fun W => by
      simpa using Lib.run_eql_slice_nil W 23 30 none 0 D 0 0 Try.underlying23
    go_enter Try.func36, Try.ntmps36
    go_wp2_with fail
    go_ret
    exact ⟨_, rfl, World.ownsRow_nil _ _ _ _, Below.refl _ _⟩
  | some q =>
    obtain ⟨i0, hi, hz0, hz1, hz2⟩ := info_parts infoDue
    have hO : Hid ((w.alloc (.cells #[] 30)).ownsRow w.heap.size 30 2 (.slice (some ⟨w.heap.size, 0, none⟩) 0 0) 0 []) := World.ownsRow_made w #[] 0 (Nat.le_refl _) (by decide) rfl
    have hB : Hid (Below w.heap.size w (w.alloc (.cells #[] 30))) := low_alloc _ _
    have heq : ∀ W : World, (binOp .eql 23 (.slice (some q) l.length D) (.slice none 0 0)).run Try.prog W = .ok (.bool false) W := fun W => by
      simpa using Lib.run_eql_slice_nil W 23 30 (some q) l.length D 0 0 Try.underlying23
    go_enter Try.func36, Try.ntmps36
    go_wp2_with (at_builtin; refine wpList_append_own _ rfl _ _ 23 rfl w.heap.size 30 i0 (.agg #[.int .i64 0, .int .i64 0]) 2 16 Try.underlying23 hi hz0 hz1 hz2 rfl (by decide) _ _ _ rfl hO.out q l.length D (flatD l) rfl (by rw [flatD_len]; omega) ?c1 ?c2 ?c3 ?c4 ?c5 ?_)
    case c1 =>
      intro k u hk
      obtain ⟨q', hq, _, hc⟩ := (H.out.below hB.out).cell k u hk
      cases hq
      exact hc
    case c2 => exact flatD_one l
    case c3 => unfold maxLen; omega
    case c4 => omega
    case c5 => simp
    · intro v1 w6 hown1 hgrow1 _
      have HB6 : Hid (Below w.heap.size w w6) := hB.out.grown hgrow1 (by simp) (fun q hq => (hO.out.lt q hq).1)
      have HO6 : Hid (w6.ownsRow w.heap.size 30 2 v1 l.length (flatD l)) := by
        show World.ownsRow _ _ _ _ _ _ _
        simpa using hown1
      clear hown1 hgrow1
      go_wp2_with fail
      go_ret
      exact ⟨v1, rfl, HO6.out, HB6.out⟩

theorem owns_form2 {w : World} {B n : Nat} {t : TypeId} {v : Value} {xs : List Value} (h : w.ownsRow B t 2 v n xs) : ∃ a c, v = .slice a n c := by
  rcases h.2 with ⟨rfl, rfl⟩ | ⟨g, cap, _, rfl, _⟩
  · exact ⟨_, _, rfl⟩
  · exact ⟨_, _, rfl⟩
theorem owns_mono2 {w : World} {B B' n size : Nat} {e : TypeId} {v : Value} {xs : List Value} (h : w.ownsRow B e size v n xs) (hb : B' ≤ B) : w.ownsRow B' e size v n xs :=
  ⟨h.1, h.2.elim .inl fun ⟨g, cap, cur, h1, h2, r⟩ => .inr ⟨g, cap, cur, h1, Nat.le_trans hb h2, r⟩⟩
theorem cells2' (w : World) (t : TypeId) (x y : Value) : ∀ j u, ([x, y] : List Value)[j]? = some u → (w.alloc (.cells #[x, y] t)).drew.cell? ((⟨w.heap.size, 0, none⟩ : Addr).add j) = some u := fun j u hu => by
  rw [add_plain, Nat.zero_add]
  exact ((row_fresh w [x, y] t).below (low_drew _)).cell j u hu
set_option maxHeartbeats 4000000 in
set_option maxRecDepth 100000 in
theorem push_c (B hb : Nat) (v : Value) (l : List Du) (hl : l.length ≤ 1000) (x : Du) (w : World) (hX : Row w hb [v]) (hO : w.ownsRow B 30 2 v l.length (flatD l)) (hne : v.ownBlock ≠ some hb) (hBb : B ≤ hb) :
    Calls Try.prog 35 #[.pointer (some ⟨hb, 0, none⟩), .agg #[.int .i64 x.t, .int .i64 x.n]] w fun e w' => e = .returned (.tuple #[]) ∧ ∃ v', Row w' hb [v'] ∧ w'.ownsRow B 30 2 v' (l.length + 1) (flatD (dpush l x)) ∧ v'.ownBlock ≠ some hb ∧ Below B w w' := by
  have HX : Hid (Row w hb [v]) := hX
  have HO : Hid (w.ownsRow B 30 2 v l.length (flatD l)) := hO
  have HNe : Hid (v.ownBlock ≠ some hb) := hne
  have hlt := hX.lt
  clear hX hO hne
  obtain ⟨i0, hi, hz0, hz1, hz2⟩ := info_parts infoDue
  go_enter Try.func35, Try.ntmps35
  go_wp2_with fail
  have HX1 : Hid (Row (w.alloc (.cells #[.int .i64 x.t, .int .i64 x.n] 30)) w.heap.size [.int .i64 x.t, .int .i64 x.n]) := row_fresh w [.int .i64 x.t, .int .i64 x.n] 30
  have HB1 : Hid (Below w.heap.size w (w.alloc (.cells #[.int .i64 x.t, .int .i64 x.n] 30))) := low_alloc _ _
  have hs1 : (w.alloc (.cells #[.int .i64 x.t, .int .i64 x.n] 30)).heap.size = w.heap.size + 1 := by simp [go_sem]
  generalize w.alloc (.cells #[.int .i64 x.t, .int .i64 x.n] 30) = w1 at HX1 HB1 hs1 ⊢
  have HH1 : Hid (Row w1 hb [v]) := HX.out.below HB1.out
  have HO1 : Hid (w1.ownsRow B 30 2 v l.length (flatD l)) := ownsD_below HO.out HB1.out
  have h0 := HH1.out.cell 0 _ rfl
  have x0 := HX1.out.cell 0 _ rfl
  have x1 := HX1.out.cell 1 _ rfl
  have a1 : hb < w1.heap.size := by omega
  have a2 : hb ≠ w1.heap.size := by omega
  have a3 : w.heap.size < w1.heap.size := by omega
  have a4 : w.heap.size ≠ w1.heap.size := by omega
  have HS1 : Hid (w1.heap.size = w.heap.size + 1) := hs1
  have HO2 : Hid ((w1.alloc (.cells #[.int .i64 x.t, .int .i64 x.n] 30)).drew.ownsRow B 30 2 v l.length (flatD l)) := ownsD_below (HO1.out.alloc _) (low_drew _)
  have k0 := cells2' w1 30 (.int .i64 x.t) (.int .i64 x.n)
  have k1 : ∀ u ∈ ([.int .i64 x.t, .int .i64 x.n] : List Value), u.oneCell' = true := by simp [Value.oneCell']
  have k2 : l.length + 1 ≤ maxLen := by unfold maxLen; omega
  have k3 : (l.length + 1) * 16 ≤ 140737488355328 := by omega
  have k5 : (w1.alloc (.cells #[.int .i64 x.t, .int .i64 x.n] 30)).drew.heap.size = w1.heap.size + 1 := by simp [go_sem]
  have k4 : B ≤ (w1.alloc (.cells #[.int .i64 x.t, .int .i64 x.n] 30)).drew.heap.size := by rw [k5]; omega
  have HB4 : Hid (Below B w1 (w1.alloc (.cells #[.int .i64 x.t, .int .i64 x.n] 30)).drew) := (below_then (low_alloc w1 _) (low_drew _)).mono (by omega)
  clear hs1
  go_wp2_with fail
  go_region_law (refine step_append_lies _ rfl _ _ 51 rfl B 30 i0 (.agg #[.int .i64 0, .int .i64 0]) 2 16 Try.underlying51 hi hz0 hz1 hz2 rfl (by decide) v l.length (flatD l) rfl HO2.out ⟨w1.heap.size, 0, none⟩ 1 1 [.int .i64 x.t, .int .i64 x.n] rfl rfl k0 k1 Nat.one_pos k2 k3 k4 (w1.heap.size + 1) k5 ?_; intro gq cq w3 hown hgrow hat _; have HH3 : Hid (Row w3 hb [v]) := ((HH1.out.below (low_alloc _ _)).below (low_drew _)).far hgrow (fun e => HNe.out e.symm); have HO3 : Hid (w3.ownsRow B 30 2 (.slice (some ⟨gq, 0, none⟩) (l.length + 1) cq) (l.length + 1) (flatD l ++ [.int .i64 x.t, .int .i64 x.n])) := hown; have HN3 : Hid (gq ≠ hb) := hat.elim (fun e t => HNe.out (by rw [e, t])) (fun e t => by omega); have HB3 : Hid (Below B w1 w3) := HB4.out.trans ⟨hgrow.os, hgrow.tape, hgrow.output, hgrow.size, fun k hk => hgrow.block k (by rw [k5]; omega) (fun e => by have := (HO2.out.lt k e.symm).1; omega)⟩; have s1 := HH3.out.cell 0 _ rfl; have sf1 := HH3.out.free 0; clear hown hgrow hat)
  all_goals
    have HHf : Hid (Row (w3.setCell ⟨hb, 0, none⟩ (.slice (some ⟨gq, 0, none⟩) (l.length + 1) cq)) hb [.slice (some ⟨gq, 0, none⟩) (l.length + 1) cq]) := HH3.out.set 0 (by simp) _
    have HOf : Hid ((w3.setCell ⟨hb, 0, none⟩ (.slice (some ⟨gq, 0, none⟩) (l.length + 1) cq)).ownsRow B 30 2 (.slice (some ⟨gq, 0, none⟩) (l.length + 1) cq) (l.length + 1) (flatD l ++ [.int .i64 x.t, .int .i64 x.n])) := HO3.out.kept (Lib.grownBy_setCell w3 hb 0 _) (.inr (fun e => HN3.out (Option.some.inj e)))
    have HBf : Hid (Below B w (w3.setCell ⟨hb, 0, none⟩ (.slice (some ⟨gq, 0, none⟩) (l.length + 1) cq))) := (HB1.out.mono (by omega)).trans (HB3.out.setCell (p := ⟨hb, 0, none⟩) hBb _)
    generalize w3.setCell ⟨hb, 0, none⟩ (.slice (some ⟨gq, 0, none⟩) (l.length + 1) cq) = w4 at HHf HOf HBf ⊢
    clear h0 x0 x1 a1 a2 a3 a4 k0 k1 k2 k3 k4 k5 s1 sf1 HH3 HO3 HB3 HO2 HX1 HO1 HH1
    obtain ⟨N, hN⟩ : ∃ N, N = l.length + 1 := ⟨_, rfl⟩
    rw [← hN] at HHf HOf ⊢
    have hys : (l ++ [x]).length = N := by simp [hN]
    have e9 : flatD l ++ [.int .i64 x.t, .int .i64 x.n] = flatD (l ++ [x]) := by rw [flatD_add]; rfl
    rw [e9] at HOf
    have HL : Hid (l.length ≤ 1000) := hl
    have hN1 : (N : Int) - 1 = (l.length : Int) := by omega
    have hRi : ∀ W : World, W.ownsRow B 30 2 (.slice (some ⟨gq, 0, none⟩) N cq) N (flatD (l ++ [x])) → Calls Try.prog 48 #[.slice (some ⟨gq, 0, none⟩) N cq, .int .i64 (l.length : Int)] W fun e w' => e = .returned (.tuple #[]) ∧ w'.ownsRow B 30 2 (.slice (some ⟨gq, 0, none⟩) N cq) N (flatD (dpush l x)) ∧ W.grownBy w' (some gq) := fun W hW => by
      have h := rise_c B gq cq (l ++ [x]) (by rw [hys]; omega) l.length (by rw [hys]; omega) W (by rw [hys]; exact hW)
      rw [hys] at h
      exact h
    have HRi : Hid (∀ W : World, W.ownsRow B 30 2 (.slice (some ⟨gq, 0, none⟩) N cq) N (flatD (l ++ [x])) → Calls Try.prog 48 #[.slice (some ⟨gq, 0, none⟩) N cq, .int .i64 (l.length : Int)] W fun e w' => e = .returned (.tuple #[]) ∧ w'.ownsRow B 30 2 (.slice (some ⟨gq, 0, none⟩) N cq) N (flatD (dpush l x)) ∧ W.grownBy w' (some gq)) := hRi
    have HN1 : Hid (N = l.length + 1) := hN
    have b0 := HHf.out.cell 0 _ rfl
    have b1 := HHf.out.lt
    have hN2 : (l.length : Int) ≤ 1000 := by omega
    have hN3 : (N : Int) ≤ 1001 := by omega
    have hwr : IntKind.i64.wrap (l.length : Int) = (l.length : Int) := by rw [IntKind.wrap_i64]; omega
    clear hRi hN hys e9 hl
    go_wp2_with fail
    go_region_with (first | (go_at_call 48; refine (HRi.out _ (ownsD_below HOf.out (low_drew _))).mono ?_; rintro e w5 ⟨rfl, ho, hgr⟩; have HO5 : Hid (w5.ownsRow B 30 2 (.slice (some ⟨gq, 0, none⟩) N cq) N (flatD (dpush l x))) := ho; have HG5 : Hid (w4.drew.grownBy w5 (some gq)) := hgr; clear ho hgr))
    all_goals
      have HR5 : Hid (Row w5 hb [.slice (some ⟨gq, 0, none⟩) N cq]) := (HHf.out.below (low_drew _)).far HG5.out (fun e => HN3.out (Option.some.inj e).symm)
      have HBe : Hid (Below B w w5) := (HBf.out.trans ((low_drew w4).mono (by omega))).grown HG5.out (by have h := HBf.out.size; show B ≤ w4.heap.size; omega) (fun k hk => by cases hk; exact (HOf.out.lt gq rfl).1)
      have HO6 : Hid (w5.ownsRow B 30 2 (.slice (some ⟨gq, 0, none⟩) N cq) (l.length + 1) (flatD (dpush l x))) := by
        show World.ownsRow _ _ _ _ _ _ _
        rw [← HN1.out]
        exact HO5.out
      clear HO5 b0 b1 hwr hN1 hN2 hN3
      go_returns
      exact ⟨rfl, _, HR5.out, HO6.out, fun e => HN3.out (Option.some.inj e), HBe.out⟩
end Go.Proofs.Ytdmmjggkdkmeaaa
