/- A profile drawn: the walk. -/
import Derived.Test.YtgpogglaffehcaaPDrA
import Derived.Deep.DeepCutAuto
import Derived.Deep.RegionWith
import Derived.Deep.RegionLaw
namespace Go.Proofs.Ytgpogglaffehcaa
open Go.ChangeShapes Go.WideShapes Go.ChangeAt Go.RowKit

theorem pok_first : POk [⟨0, 8, 16, 2⟩] := by
  refine ⟨by simp, by simp, fun n h => ?_, fun i n h => ?_, fun i m k h h' => ?_⟩
  · simp at h; rw [← h]
  · cases i with
    | zero => simp at h; rw [← h]; exact ⟨by decide, by decide⟩
    | succ i => simp at h
  · simp at h'

set_option maxRecDepth 100000 in
set_option maxHeartbeats 8000000 in
theorem l03Draw_c (g : Nat) (a : Option Addr) (n cap : Nat) (w : World) (h : Cur w g a n cap) :
    Calls Try.prog 113 #[.pointer (some ⟨g, 0, none⟩)] w fun e W' => ∃ v ns, e = .returned (.agg #[v]) ∧ POk ns ∧ W'.ownsRow w.heap.size 47 4 v ns.length (flat ns) ∧ Cur W' g a n cap ∧ w.grownBy W' (some g) := by
  have HC : Hid (Cur w g a n cap) := h
  have hgl := h.lt
  clear h
  go_enter Try.func113, Try.ntmps113
  go_wp2_with fail
  have HB0 : Hid (Below w.heap.size w (w.alloc (.cells #[.slice none 0 0] 25))) := low_alloc _ _
  have HR0 : Hid (Row (w.alloc (.cells #[.slice none 0 0] 25)) w.heap.size [.slice none 0 0]) := row_fresh w [.slice none 0 0] 25
  have hs0 : (w.alloc (.cells #[.slice none 0 0] 25)).heap.size = w.heap.size + 1 := by simp [go_sem]
  refine (specProfNew_o 8 16 2 (by decide) _).mono ?_
  rintro e w1 ⟨v1, rfl, ho, hb⟩
  obtain ⟨a1, c1, hv1⟩ := owns_form ho
  subst hv1
  have hs1 := hb.size
  have HD1 : Hid (Dp w (w1.alloc (.cells #[.slice a1 1 c1] 25)) g a n cap w1.heap.size (.slice a1 1 c1) [⟨0, 8, 16, 2⟩]) := by
    have hB1 : Below w.heap.size w w1 := below_then HB0.out hb
    have hB2 := behind_alloc hB1 (.cells #[.slice a1 1 c1] 25)
    rw [hs0] at ho
    refine ⟨HC.out, HC.out.below hB2, ⟨hB2.os, hB2.tape, hB2.output, hB2.size, fun i hi _ => hB2.block i hi⟩, (HR0.out.below hb).below (low_alloc _ _), row_fresh w1 [.slice a1 1 c1] 25, by omega, owns_below ho (low_alloc _ _), fun e => ?_⟩
    have := (ho.lt _ e).2
    omega
  clear ho hb HB0 HR0 hs0
  go_wp2_with fail
  generalize w1.alloc (.cells #[.slice a1 1 c1] 25) = w2 at HD1
  generalize w1.heap.size = Bt at *
  refine (l01Below_c g a n cap 6 (by decide) (by decide) _ HD1.out.cur).mono ?_
  rintro e w3 ⟨x, rfl, hx0, hx1, hg, hc⟩
  obtain ⟨m0, rfl⟩ : ∃ m : Nat, x = m := ⟨x.toNat, by omega⟩
  have HD3 : Hid (Dp w w3 g a n cap Bt (.slice a1 1 c1) [⟨0, 8, 16, 2⟩]) := HD1.out.drawn hg hc
  clear hg hc HD1
  have HP0 : Hid (POk [⟨0, 8, 16, 2⟩]) := pok_first
  go_wp2_with fail
  go_loopw [5] (fun i wr => ∃ (m : Nat) (v : Value) (ns : List Nd), i = .int .i64 m ∧ m ≤ 5 ∧ Dp w wr g a n cap Bt v ns ∧ POk ns) (fun i _ => (intOf i).toNat)
  case atStart => exact ⟨m0, _, _, rfl, by omega, HD3.out, HP0.out⟩
  case round =>
    obtain ⟨m, v, ns, rfl, hm, hd, hok⟩ := hrel
    have HD4 : Hid (Dp w wr g a n cap Bt v ns) := hd
    have HOk : Hid (POk ns) := hok
    obtain ⟨p1, c1, hv, _⟩ := hd.form
    subst hv
    have hbt := hd.bt
    clear hd hok HD3 HP0 hx0 hx1
    by_cases hz : 0 < m
    · have hz' : (0 : Int) < (m : Int) := by omega
      go_wp2_with fail
      refine (l01Below_c g a n cap 60 (by decide) (by decide) _ HD4.out.cur).mono ?_
      rintro e U ⟨x, rfl, hx0, hx1, hg, hc⟩
      have HD5 : Hid (Dp w U g a n cap Bt (.slice p1 ns.length c1) ns) := HD4.out.drawn hg hc
      clear hg hc HD4
      go_wp2_with fail
      have hUB := HD5.out.box.lt
      have Hvb : Hid (∀ k, (Value.slice p1 ns.length c1).ownBlock = some k → k < U.heap.size) := fun k e => (HD5.out.own.lt k e).2
      have HK : Hid (∀ W : World, Dp w W g a n cap Bt (.slice p1 ns.length c1) ns → U.heap.size ≤ W.heap.size → Dp w W g a n cap Bt (.slice p1 ns.length c1) ns ∧ U.heap.size ≤ W.heap.size ∧ W.cell? ⟨Bt, 0, none⟩ = some (.slice p1 ns.length c1)) := fun W h hz => ⟨h, hz, h.box.cell 0 _ rfl⟩
      have D1 : Hid (Dp w U.drew g a n cap Bt (.slice p1 ns.length c1) ns) := HD5.out.below (low_drew U)
      have z1 : U.heap.size ≤ U.drew.heap.size := Nat.le_refl _
      have D2 : Hid (Dp w (U.alloc (.cells #[.slice none 0 0] 25)).drew g a n cap Bt (.slice p1 ns.length c1) ns) := (HD5.out.below (low_alloc _ _)).below (low_drew _)
      have z2 : U.heap.size ≤ (U.alloc (.cells #[.slice none 0 0] 25)).drew.heap.size := (low_alloc U _).size
      go_cut [7, 8] (fun p q wc => ∃ (X : Nat) (a' : Option Addr) (c' : Nat) (r : List Nd) (k : Bool), p = .pointer (some ⟨X, 0, none⟩) ∧ q = .bool k ∧ (k = true → POk r) ∧ Nx w U wc g a n cap Bt (.slice p1 ns.length c1) ns X (.slice a' r.length c') r)
      case first =>
        go_region_held3 (fun W => Dp w W g a n cap Bt (.slice p1 ns.length c1) ns ∧ U.heap.size ≤ W.heap.size ∧ W.cell? ⟨Bt, 0, none⟩ = some (.slice p1 ns.length c1)) ((go_split_ands; refine HK.out _ ?_ ?_ <;> first | (exact Hid.out (by with_reducible assumption)) | (exact Dp.below (Hid.out (by with_reducible assumption)) (low_alloc _ _)) | (with_reducible assumption) | (exact Dp.below (by with_reducible assumption) (low_alloc _ _)) | (exact FB.out.2.2) | omega | (rw [World.size_setCell]; omega) | (simp [go_sem]; omega)))
          (first
          | (go_at_call_of 59 (Value.int IntKind.i64 40); refine (l01Below_c g a n cap 40 (by decide) (by decide) _ (Dp.cur (And.left (by with_reducible assumption)))).mono ?_; rintro e wk ⟨y1, rfl, hy10, hy11, hgk, hck⟩; have Dk : Hid (Dp w wk g a n cap Bt (.slice p1 ns.length c1) ns) := Dp.drawn (And.left (by with_reducible assumption)) hgk hck; have zk : U.heap.size ≤ wk.heap.size := Nat.le_trans (And.left (And.right (by with_reducible assumption))) hgk.size; (try have HX : Hid (Row wk _ [.slice none 0 0]) := HX.out.far hgk (fun e => by have := Option.some.inj e; omega)); (try (first | have HX : Hid (Row wk _ [.slice none 0 0]) := (row_fresh _ [.slice none 0 0] 25).far hgk (fun e => by have := Option.some.inj e; omega) | have HX : Hid (Row wk _ [.slice none 0 0]) := ((row_fresh _ [.slice none 0 0] 25).below (low_drew _)).far hgk (fun e => by have := Option.some.inj e; omega))); (try have hxc := HX.out.cell 0 _ rfl); (try have hxf := HX.out.free 0); clear hgk hck)
          | (go_at_call_of 59 (Value.int IntKind.i64 4); refine (l01Below_c g a n cap 4 (by decide) (by decide) _ (Dp.cur (And.left (by with_reducible assumption)))).mono ?_; rintro e wk ⟨y2, rfl, hy20, hy21, hgk, hck⟩; have Dk : Hid (Dp w wk g a n cap Bt (.slice p1 ns.length c1) ns) := Dp.drawn (And.left (by with_reducible assumption)) hgk hck; have zk : U.heap.size ≤ wk.heap.size := Nat.le_trans (And.left (And.right (by with_reducible assumption))) hgk.size; (try have HX : Hid (Row wk _ [.slice none 0 0]) := HX.out.far hgk (fun e => by have := Option.some.inj e; omega)); (try (first | have HX : Hid (Row wk _ [.slice none 0 0]) := (row_fresh _ [.slice none 0 0] 25).far hgk (fun e => by have := Option.some.inj e; omega) | have HX : Hid (Row wk _ [.slice none 0 0]) := ((row_fresh _ [.slice none 0 0] 25).below (low_drew _)).far hgk (fun e => by have := Option.some.inj e; omega))); (try have hxc := HX.out.cell 0 _ rfl); (try have hxf := HX.out.free 0); clear hgk hck)
          | (go_at_call_of 59 (Value.int IntKind.i64 6); refine (l01Below_c g a n cap 6 (by decide) (by decide) _ (Dp.cur (And.left (by with_reducible assumption)))).mono ?_; rintro e wk ⟨y3, rfl, hy30, hy31, hgk, hck⟩; have Dk : Hid (Dp w wk g a n cap Bt (.slice p1 ns.length c1) ns) := Dp.drawn (And.left (by with_reducible assumption)) hgk hck; have zk : U.heap.size ≤ wk.heap.size := Nat.le_trans (And.left (And.right (by with_reducible assumption))) hgk.size; (try have HX : Hid (Row wk _ [.slice none 0 0]) := HX.out.far hgk (fun e => by have := Option.some.inj e; omega)); (try (first | have HX : Hid (Row wk _ [.slice none 0 0]) := (row_fresh _ [.slice none 0 0] 25).far hgk (fun e => by have := Option.some.inj e; omega) | have HX : Hid (Row wk _ [.slice none 0 0]) := ((row_fresh _ [.slice none 0 0] 25).below (low_drew _)).far hgk (fun e => by have := Option.some.inj e; omega))); (try have hxc := HX.out.cell 0 _ rfl); (try have hxf := HX.out.free 0); clear hgk hck)
          | (go_at_call_of 59 (Value.int IntKind.i64 2); refine (l01Below_c g a n cap 2 (by decide) (by decide) _ (Dp.cur (And.left (by with_reducible assumption)))).mono ?_; rintro e wk ⟨y4, rfl, hy40, hy41, hgk, hck⟩; have Dk : Hid (Dp w wk g a n cap Bt (.slice p1 ns.length c1) ns) := Dp.drawn (And.left (by with_reducible assumption)) hgk hck; have zk : U.heap.size ≤ wk.heap.size := Nat.le_trans (And.left (And.right (by with_reducible assumption))) hgk.size; (try have HX : Hid (Row wk _ [.slice none 0 0]) := HX.out.far hgk (fun e => by have := Option.some.inj e; omega)); (try (first | have HX : Hid (Row wk _ [.slice none 0 0]) := (row_fresh _ [.slice none 0 0] 25).far hgk (fun e => by have := Option.some.inj e; omega) | have HX : Hid (Row wk _ [.slice none 0 0]) := ((row_fresh _ [.slice none 0 0] 25).below (low_drew _)).far hgk (fun e => by have := Option.some.inj e; omega))); (try have hxc := HX.out.cell 0 _ rfl); (try have hxf := HX.out.free 0); clear hgk hck)
          | (go_at_call 14; refine (specProfTake_p p1 c1 ns _ _ ⟨0, y2, y3, y4⟩ _ (Dp.sq (And.left (by with_reducible assumption)))).mono ?_; rintro e wk ⟨a', c', r, k, rfl, hk, ho, hbk⟩;
              have Dk : Hid (Dp w wk g a n cap Bt (.slice p1 ns.length c1) ns) := Dp.below (And.left (by with_reducible assumption)) hbk; have zk : U.heap.size ≤ wk.heap.size := Nat.le_trans (And.left (And.right (by with_reducible assumption))) hbk.size;
              (try have FB : Hid (Nx w U (wk.setCell ⟨_, 0, none⟩ (.slice a' r.length c')) g a n cap Bt (.slice p1 ns.length c1) ns _ (.slice a' r.length c') r) := fin_nx HX.out ho hbk Dk.out (by first | exact Nat.le_refl _ | omega | (simp [go_sem]; omega)) Hvb.out hUB);
              (try have FB : Hid (Nx w U (wk.setCell ⟨_, 0, none⟩ (.slice a' r.length c')) g a n cap Bt (.slice p1 ns.length c1) ns _ (.slice a' r.length c') r) := fin_nx (row_fresh _ [.slice none 0 0] 25) ho hbk Dk.out (by first | exact Nat.le_refl _ | omega | (simp [go_sem]; omega)) Hvb.out hUB);
              have FN : Hid (Nx w U (wk.alloc (.cells #[(.slice a' r.length c')] 25)) g a n cap Bt (.slice p1 ns.length c1) ns wk.heap.size (.slice a' r.length c') r) := fin_nx_new ho (And.left (And.right (by with_reducible assumption))) Dk.out;
              have HPk : Hid (k = true → POk r) := hk; clear hk ho; (try (first | have HX : Hid (Row wk _ [.slice none 0 0]) := HX.out.below hbk | have HX : Hid (Row wk _ [.slice none 0 0]) := (row_fresh _ [.slice none 0 0] 25).below hbk)); (try have hxc := HX.out.cell 0 _ rfl); (try have hxf := HX.out.free 0); clear hbk))
        all_goals
          go_split_ands
          go_wp2_with fail
          go_meet
          case rel =>
            first
              | exact ⟨_, _, _, _, _, rfl, rfl, HPk.out, FB.out⟩
              | exact ⟨U.heap.size, _, _, _, _, rfl, rfl, HPk.out, FB.out⟩
              | exact ⟨_, _, _, _, _, rfl, rfl, HPk.out, FN.out⟩
      case rest =>
      obtain ⟨X, a', c', r, k, rfl, rfl, hk, hX, ho, hd⟩ := hcut
      have HD6 : Hid (Dp w wc g a n cap Bt (.slice p1 ns.length c1) ns) := hd
      have HR6 : Hid (POk r) ∨ k = false := by
        cases k
        · exact .inr rfl
        · exact .inl (hk rfl)
      have x0 := hX.cell 0 _ rfl
      have bf := hd.box.free 0
      have b0 := hd.box.cell 0 _ rfl
      cases k
      · clear HR6 hk ho hX hd D1 D2 HK
        go_wp2_with fail
        exact ⟨⟨m - 1, _, ns, by go_num, by omega, HD6.out, HOk.out⟩, by simp [intOf]; omega⟩
      · have HP6 : Hid (POk r) := hk rfl
        have HD7 : Hid (Dp w (wc.setCell ⟨Bt, 0, none⟩ (.slice a' r.length c')) g a n cap Bt (.slice a' r.length c') r) := hd.put ho hUB
        clear HR6 hk ho hX hd D1 D2 HK
        go_wp2_with fail
        exact ⟨⟨m - 1, _, r, by go_num, by omega, HD7.out, HP6.out⟩, by simp [intOf]; omega⟩
    · obtain rfl : m = 0 := by omega
      have b3 := HD4.out.box.cell 0 _ rfl
      have r3 := HD4.out.res.cell 0 _ rfl
      have rf3 := HD4.out.res.free 0
      obtain ⟨p, c, hv, hpc, d1, d2, d3, d4, d5⟩ := HD4.out.done
      cases hv
      go_wp2_with fail
      exact bodyPost_ret (v := .agg #[.slice p1 ns.length c1]) (by simp [results, Try.results113, go_sem, *]) rfl ⟨_, ns, rfl, HOk.out, owns_mono d3 (by omega), d4, d5⟩
end Go.Proofs.Ytgpogglaffehcaa
