/- Places drawn: a list of numbers. -/
import Derived.Test.YtcjamjfdkpgjkaaDrA
import Derived.Test.YtcjamjfdkpgjkaaCurC
import Derived.Deep.DeepCutAuto
import Derived.Deep.Light
namespace Go.Proofs.Ytcjamjfdkpgjkaa
open Go.ChangeShapes Go.WideShapes Go.ChangeAt Go.RowKit

theorem l01Below_z (g : Nat) (m : Int) (hm : m ≤ 0) (w : World) :
    Calls Try.prog 25 #[.pointer (some ⟨g, 0, none⟩), .int .i64 m] w fun e w' => e = .returned (.int .i64 0) ∧ Below w.heap.size w w' := by
  go_enter Try.func25, Try.ntmps25
  go_wp2_with fail
  go_ret
  exact ⟨rfl, ⟨rfl, rfl, rfl, Nat.le_refl _, fun _ _ => rfl⟩⟩

/-- Below a number that may be none. -/
theorem l01Below_any (g : Nat) (a : Option Addr) (n cap : Nat) (m : Nat) (hm : m ≤ 1000) (w : World) (h : Cur w g a n cap) :
    Calls Try.prog 25 #[.pointer (some ⟨g, 0, none⟩), .int .i64 (m : Int)] w fun e w' => ∃ x : Int, e = .returned (.int .i64 x) ∧ w.grownBy w' (some g) ∧ Cur w' g a n cap := by
  by_cases h0 : m = 0
  · refine (l01Below_z g m (by omega) w).mono ?_
    rintro e w' ⟨rfl, hb⟩
    exact ⟨0, rfl, ⟨hb.os, hb.tape, hb.output, hb.size, fun i hi _ => hb.block i hi⟩, h.below hb⟩
  · refine (l01Below_c g a n cap m (by omega) (by omega) w h).mono ?_
    rintro e w' ⟨x, rfl, _, _, hg, hc⟩
    exact ⟨x, rfl, hg, hc⟩

/-- Numbers that are being drawn; the topology's box lies ahead of them. -/
structure Sm (w W : World) (g : Nat) (a : Option Addr) (n cap : Nat) (vP vN : Value) (gn cn : Nat) (xs : List Int) : Prop where
  cur0 : Cur w g a n cap
  cur : Cur W g a n cap
  box : Box2 W w.heap.size 26 vP vN
  own : W.ownsRow w.heap.size 3 1 (.slice (some ⟨gn, 0, none⟩) xs.length cn) xs.length (ints xs)
  grown : w.grownBy W (some g)
  low : w.heap.size < gn

theorem Sm.below {w W W' : World} {g : Nat} {a : Option Addr} {n cap : Nat} {vP vN : Value} {gn cn : Nat} {xs : List Int} (h : Sm w W g a n cap vP vN gn cn xs) (hb : Below W.heap.size W W') : Sm w W' g a n cap vP vN gn cn xs :=
  ⟨h.cur0, h.cur.below hb, h.box.below hb, owns_below h.own hb, ⟨hb.os.trans h.grown.os, hb.tape.trans h.grown.tape, hb.output.trans h.grown.output, Nat.le_trans h.grown.size hb.size, fun i hi hne => (hb.block i (Nat.lt_of_lt_of_le hi h.grown.size)).trans (h.grown.block i hi hne)⟩, h.low⟩

theorem Sm.drawn {w W W' : World} {g : Nat} {a : Option Addr} {n cap : Nat} {vP vN : Value} {gn cn : Nat} {xs : List Int} (h : Sm w W g a n cap vP vN gn cn xs) (hg : W.grownBy W' (some g)) (hc : Cur W' g a n cap) : Sm w W' g a n cap vP vN gn cn xs := by
  have hl := h.cur0.lt
  have hh := h.low
  exact ⟨h.cur0, hc, h.box.kept hg (by intro e; have := Option.some.inj e; omega), h.own.kept hg (.inr (by intro e; simp [Value.ownBlock] at e; omega)), ⟨hg.os.trans h.grown.os, hg.tape.trans h.grown.tape, hg.output.trans h.grown.output, Nat.le_trans h.grown.size hg.size, fun i hi hne => (hg.block i (Nat.lt_of_lt_of_le hi h.grown.size) hne).trans (h.grown.block i hi hne)⟩, hh⟩

theorem Sm.more {w W w' : World} {g : Nat} {a : Option Addr} {n cap : Nat} {vP vN : Value} {gn cn gq cq : Nat} {xs : List Int} (h : Sm w W g a n cap vP vN gn cn xs) (s : Int)
    (hown : w'.ownsRow w.heap.size 3 1 (.slice (some ⟨gq, 0, none⟩) (xs.length + 1) cq) (xs.length + 1) (ints xs ++ [.int .i64 s])) (hg : W.grownBy w' (some gn)) (hat : gn = gq ∨ gq = W.heap.size) :
    Sm w w' g a n cap vP vN gq cq (xs ++ [s]) := by
  have hl := h.cur0.lt
  have hh := h.low
  have hs := h.box.lt
  have g1 : w.grownBy w' (some g) := grown_then h.grown hg (by omega)
  refine ⟨h.cur0, Cur.on h.cur0 g1 h.cur hg (by omega), h.box.kept hg (by intro e; have := Option.some.inj e; omega), ?_, g1, by rcases hat with e | e <;> omega⟩
  have hi : ints (xs ++ [s]) = ints xs ++ [.int .i64 s] := by simp [ints]
  rw [hi, List.length_append, List.length_singleton]
  exact hown

set_option maxRecDepth 100000 in
set_option maxHeartbeats 4000000 in
theorem l02Some_c (g : Nat) (a : Option Addr) (n cap : Nat) (vP : Value) (aN : Option Addr) (m dN : Nat) (hm : m ≤ 1000) (w : World) (h : Cur w g a n cap) :
    Calls Try.prog 13 #[.pointer (some ⟨g, 0, none⟩), .agg #[vP, .slice aN m dN]] w fun e W' => ∃ gn cn xs, e = .returned (.slice (some ⟨gn, 0, none⟩) xs.length cn) ∧ xs.length ≤ 5 ∧
      W'.ownsRow w.heap.size 3 1 (.slice (some ⟨gn, 0, none⟩) xs.length cn) xs.length (ints xs) ∧ Cur W' g a n cap ∧ w.grownBy W' (some g) := by
  have HC : Hid (Cur w g a n cap) := h
  clear h
  obtain ⟨i0, hi, hz0, hz1, hz2⟩ := info_parts infoInt
  go_enter Try.func13, Try.ntmps13
  go_wp2_with fail
  have HB0 : Hid (Below w.heap.size w ((w.alloc (.cells #[vP, .slice aN m dN] 26)).alloc (.cells #[] 3))) := behind_alloc (low_alloc _ _) _
  have HS0 : Hid (Sm w ((w.alloc (.cells #[vP, .slice aN m dN] 26)).alloc (.cells #[] 3)) g a n cap vP (.slice aN m dN) (w.heap.size + 1) 0 []) := by
    refine ⟨HC.out, HC.out.below HB0.out, (Box2.new w 26 vP (.slice aN m dN)).below (low_alloc _ _), ?_, ⟨HB0.out.os, HB0.out.tape, HB0.out.output, HB0.out.size, fun i hi _ => HB0.out.block i hi⟩, by omega⟩
    have h1 := owns_mono (B' := w.heap.size) (World.ownsRow_made (e := 3) (size := 1) (w.alloc (.cells #[vP, .slice aN m dN] 26)) #[] 0 (Nat.le_refl _) (by decide) rfl) (by simp)
    simpa [go_sem, ints] using h1
  generalize ((w.alloc (.cells #[vP, .slice aN m dN] 26)).alloc (.cells #[] 3)) = w0 at HB0 HS0
  refine (l01Below_c g a n cap 5 (by decide) (by decide) w0 HS0.out.cur).mono ?_
  rintro e w1 ⟨y, rfl, hy0, hy1, hg, hc⟩
  have HS1 : Hid (Sm w w1 g a n cap vP (.slice aN m dN) (w.heap.size + 1) 0 []) := HS0.out.drawn hg hc
  clear hg hc HB0 HS0
  obtain ⟨y', rfl⟩ : ∃ y' : Nat, y = y' := ⟨y.toNat, by omega⟩
  go_wp2_with fail
  go_loopw [5, 6] (fun v i wr => ∃ (q gn cn : Nat) (xs : List Int), i = .int .i64 q ∧ v = .slice (some ⟨gn, 0, none⟩) xs.length cn ∧ q + xs.length ≤ 4 ∧ Sm w wr g a n cap vP (.slice aN m dN) gn cn xs) (fun _ i _ => (intOf i).toNat)
  case atStart => exact ⟨y', w.heap.size + 1, 0, [], rfl, rfl, by simp; omega, HS1.out⟩
  case round =>
    clear HS1 hy0 hy1
    obtain ⟨q, gn, cn, xs, rfl, rfl, hq, hs⟩ := hrel
    have HS : Hid (Sm w wr g a n cap vP (.slice aN m dN) gn cn xs) := hs
    clear hs
    by_cases hq0 : 0 < q
    · have hqi : (0 : Int) < (q : Int) := by omega
      have b1 := HS.out.box.cell1
      go_wp2_with fail
      refine (l01Below_any g a n cap m hm wr HS.out.cur).mono ?_
      rintro e w5 ⟨z, rfl, hg, hc⟩
      have HS5 : Hid (Sm w w5 g a n cap vP (.slice aN m dN) gn cn xs) := HS.out.drawn hg hc
      clear hg hc HS b1
      go_wp2_with (at_builtin; refine wpList_append_lies _ rfl _ _ 23 rfl w.heap.size 3 i0 (.int .i64 0) 1 8 Try.underlying23 hi hz0 hz1 hz2 rfl (by decide) _ _ _ rfl (HS5.out.own.alloc _) ⟨w5.heap.size, 0, none⟩ 1 1 [.int .i64 z] rfl rfl ?c1 ?c2 (by decide) ?c3 ?c4 ?c5 (w5.heap.size + 1) ?c6 ?_)
      case c1 =>
        intro k u hk
        match k, hk with
        | 0, hk => simp at hk; subst hk; simp [Addr.add]
      case c2 => intro u hu; simp at hu; subst hu; rfl
      case c3 => unfold maxLen; omega
      case c4 => omega
      case c5 => have := HS5.out.grown.size; simp; omega
      case c6 => simp
      · intro gq cq w6 hown hgrow hat _
        have hW : (w5.alloc (.cells #[.int .i64 z] 3)).heap.size = w5.heap.size + 1 := by simp
        have HS6 : Hid (Sm w w6 g a n cap vP (.slice aN m dN) gq cq (xs ++ [z])) := (HS5.out.below (low_alloc w5 (.cells #[.int .i64 z] 3))).more z hown hgrow (by rw [hW]; simpa [Value.ownBlock] using hat)
        clear hW
        have hsz : xs.length + 1 = (xs ++ [z]).length := by simp
        clear hown hgrow hat HS5
        rw [hsz]
        clear hsz
        go_wp2_with fail
        go_roundw
        case rel => exact ⟨q - 1, gq, cq, xs ++ [z], by go_num, rfl, by simp; omega, HS6.out⟩
        case measure => simp [intOf]; omega
    · obtain rfl : q = 0 := by omega
      go_wp2_with fail
      refine (l01Below_c g a n cap 10 (by decide) (by decide) wr HS.out.cur).mono ?_
      rintro e w5 ⟨z, rfl, hz0', hz1', hg, hc⟩
      have HS5 : Hid (Sm w w5 g a n cap vP (.slice aN m dN) gn cn xs) := HS.out.drawn hg hc
      clear hg hc HS
      by_cases hz : z = 0
      · subst hz
        clear hz0' hz1'
        go_wp2_with fail
        refine (l01Raw_c g a n cap w5 HS5.out.cur).mono ?_
        rintro e w6 ⟨u, rfl, hg, hc⟩
        have HS6 : Hid (Sm w w6 g a n cap vP (.slice aN m dN) gn cn xs) := HS5.out.drawn hg hc
        clear hg hc HS5
        go_wp2_with (at_builtin; refine wpList_append_lies _ rfl _ _ 23 rfl w.heap.size 3 i0 (.int .i64 0) 1 8 Try.underlying23 hi hz0 hz1 hz2 rfl (by decide) _ _ _ rfl (HS6.out.own.alloc _) ⟨w6.heap.size, 0, none⟩ 1 1 [.int .i64 u] rfl rfl ?c1 ?c2 (by decide) ?c3 ?c4 ?c5 (w6.heap.size + 1) ?c6 ?_)
        case c1 =>
          intro k u hk
          match k, hk with
          | 0, hk => simp at hk; subst hk; simp [Addr.add]
        case c2 => intro u hu; simp at hu; subst hu; rfl
        case c3 => unfold maxLen; omega
        case c4 => omega
        case c5 => have := HS6.out.grown.size; simp; omega
        case c6 => simp
        · intro gq cq w7 hown hgrow hat _
          have hW : (w6.alloc (.cells #[.int .i64 u] 3)).heap.size = w6.heap.size + 1 := by simp
          have HS7 : Hid (Sm w w7 g a n cap vP (.slice aN m dN) gq cq (xs ++ [u])) := (HS6.out.below (low_alloc w6 (.cells #[.int .i64 u] 3))).more u hown hgrow (by rw [hW]; simpa [Value.ownBlock] using hat)
          clear hW
          clear hown hgrow hat HS6
          go_wp2_with fail
          go_ret
          exact ⟨gq, cq, xs ++ [u], by simp, by simp; omega, HS7.out.own, HS7.out.cur, HS7.out.grown⟩
      · have hz2' : (z == 0) = false := by simpa using hz
        go_wp2_with fail
        go_ret
        exact ⟨gn, cn, xs, rfl, by omega, HS5.out.own, HS5.out.cur, HS5.out.grown⟩
end Go.Proofs.Ytcjamjfdkpgjkaa
