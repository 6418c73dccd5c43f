/- A topology drawn: its switches, then its nodes. -/
import Derived.Test.YtcjamjfdkpgjkaaDrA
import Derived.Deep.DeepCutAuto
import Derived.Deep.Light
import Derived.Deep.RegionLaw
namespace Go.Proofs.Ytcjamjfdkpgjkaa
open Go.ChangeShapes Go.WideShapes Go.ChangeAt Go.RowKit

/-- Numbers in a block apart. -/
structure Lst (w W : World) (gl gp Bt : Nat) (ls : List Int) : Prop where
  row : Row W gl (ints ls)
  typ : ∃ cur, W.heap[gl]? = some (.cells cur 3 (0, 0))
  low : w.heap.size < gl
  np : gl ≠ gp
  nb : gl ≠ Bt

theorem Lst.below {w W W' : World} {gl gp Bt : Nat} {ls : List Int} (h : Lst w W gl gp Bt ls) (hb : Below W.heap.size W W') : Lst w W' gl gp Bt ls := ⟨h.row.below hb, h.typ.imp fun _ e => (hb.block gl h.row.lt).trans e, h.low, h.np, h.nb⟩
theorem Lst.drawn {w W W' : World} {g gl gp Bt : Nat} {ls : List Int} (h : Lst w W gl gp Bt ls) (hg : W.grownBy W' (some g)) (hl : g < w.heap.size) : Lst w W' gl gp Bt ls := ⟨h.row.far hg (by intro e; have := Option.some.inj e; have := h.low; omega), h.typ.imp fun _ e => (hg.block gl h.row.lt (by intro e; have := Option.some.inj e; have := h.low; omega)).trans e, h.low, h.np, h.nb⟩

/-- Numbers that grow in a block apart. -/
structure Nxt (w W : World) (gn gp gl Bt cn : Nat) (xs : List Int) : Prop where
  own : W.ownsRow w.heap.size 3 1 (.slice (some ⟨gn, 0, none⟩) xs.length cn) xs.length (ints xs)
  low : w.heap.size < gn
  np : gn ≠ gp
  nl : gn ≠ gl
  nb : gn ≠ Bt

theorem Nxt.below {w W W' : World} {gn gp gl Bt cn : Nat} {xs : List Int} (h : Nxt w W gn gp gl Bt cn xs) (hb : Below W.heap.size W W') : Nxt w W' gn gp gl Bt cn xs := ⟨owns_below h.own hb, h.low, h.np, h.nl, h.nb⟩
theorem Nxt.drawn {w W W' : World} {g gn gp gl Bt cn : Nat} {xs : List Int} (h : Nxt w W gn gp gl Bt cn xs) (hg : W.grownBy W' (some g)) (hl : g < w.heap.size) : Nxt w W' gn gp gl Bt cn xs :=
  ⟨h.own.kept hg (.inr (by intro e; simp [Value.ownBlock] at e; have := h.low; omega)), h.low, h.np, h.nl, h.nb⟩

theorem cells4 (W : World) (t : TypeId) (x y z u : Value) : ∀ (j : Nat) (v : Value), [x, y, z, u][j]? = some v → (W.alloc (.cells #[x, y, z, u] t)).cell? ((⟨W.heap.size, 0, none⟩ : Addr).add j) = some v := fun j v h => by
  have h2 := (row_fresh W [x, y, z, u] t).cell j v h
  rw [show ((⟨W.heap.size, 0, none⟩ : Addr).add j) = ⟨W.heap.size, j, none⟩ by unfold Addr.add; by_cases e : j = 0 <;> simp [e]]
  exact h2

set_option maxRecDepth 100000 in
set_option maxHeartbeats 8000000 in
theorem l02Draw_c (g : Nat) (a : Option Addr) (n cap : Nat) (w : World) (h : Cur w g a n cap) :
    Calls Try.prog 24 #[.pointer (some ⟨g, 0, none⟩)] w fun e W' => ∃ gp cp ps vN ns, e = .returned (.agg #[.slice (some ⟨gp, 0, none⟩) ps.length cp, vN]) ∧ 1 ≤ ps.length ∧ ps.length ≤ 18 ∧ ns.length ≤ 10 ∧
      W'.ownsRow w.heap.size 3 1 (.slice (some ⟨gp, 0, none⟩) ps.length cp) ps.length (ints ps) ∧ W'.ownsRow w.heap.size 35 4 vN ns.length (flat ns) ∧ Cur W' g a n cap ∧ w.grownBy W' (some g) := by
  have HC : Hid (Cur w g a n cap) := h
  have hgl := h.lt
  clear h
  obtain ⟨i0, hi, hz0, hz1, hz2⟩ := info_parts infoInt
  obtain ⟨n0, mi, mz0, mz1, mz2⟩ := info_parts infoNode
  go_enter Try.func24, Try.ntmps24
  go_wp2_with fail
  have HB0 : Hid (Below w.heap.size w (((w.alloc (.cells #[.slice none 0 0, .slice none 0 0] 26)).alloc (.cells #[.int .i64 0] 3)).alloc (.cells #[.slice (some ⟨w.heap.size + 1, 0, none⟩) 1 1, .slice none 0 0] 26))) := behind_alloc (behind_alloc (low_alloc _ _) _) _
  have HD0 : Hid (Dw w (((w.alloc (.cells #[.slice none 0 0, .slice none 0 0] 26)).alloc (.cells #[.int .i64 0] 3)).alloc (.cells #[.slice (some ⟨w.heap.size + 1, 0, none⟩) 1 1, .slice none 0 0] 26)) g a n cap (w.heap.size + 1 + 1) (w.heap.size + 1) 1 [0] (.slice none 0 0) []) := by
    refine ⟨HC.out, HC.out.below HB0.out, ?_, ?_, World.ownsRow_nil _ _ _ _, ?_, ⟨HB0.out.os, HB0.out.tape, HB0.out.output, HB0.out.size, fun i hi _ => HB0.out.block i hi⟩, hgl, by omega, by simp [Value.ownBlock]⟩
    · have h := Box2.new ((w.alloc (.cells #[.slice none 0 0, .slice none 0 0] 26)).alloc (.cells #[.int .i64 0] 3)) 26 (.slice (some ⟨w.heap.size + 1, 0, none⟩) 1 1) (.slice none 0 0)
      simpa [go_sem] using h
    · have h := owns_lit (w.alloc (.cells #[.slice none 0 0, .slice none 0 0] 26)) [.int .i64 0] 3 (by simp)
      have h2 := owns_below h (low_alloc _ (.cells #[.slice (some ⟨w.heap.size + 1, 0, none⟩) 1 1, .slice none 0 0] 26))
      have h3 := owns_mono h2 (B' := w.heap.size) (by simp)
      simpa [go_sem, ints] using h3
    · exact ((Box2.new w 26 (.slice none 0 0) (.slice none 0 0)).below (low_alloc _ _)).below (low_alloc _ _)
  generalize (((w.alloc (.cells #[.slice none 0 0, .slice none 0 0] 26)).alloc (.cells #[.int .i64 0] 3)).alloc (.cells #[.slice (some ⟨w.heap.size + 1, 0, none⟩) 1 1, .slice none 0 0] 26)) = w0 at HB0 HD0
  refine (l01Below_c g a n cap 3 (by decide) (by decide) w0 HD0.out.cur).mono ?_
  rintro e w1 ⟨x, rfl, hx0, hx1, hg, hc⟩
  have HD1 : Hid (Dw w w1 g a n cap (w.heap.size + 1 + 1) (w.heap.size + 1) 1 [0] (.slice none 0 0) []) := HD0.out.drawn hg hc
  have hw1 : w.heap.size + 1 + 1 < w1.heap.size := HD1.out.box.lt
  clear hg hc HB0 HD0
  obtain ⟨lv, rfl⟩ : ∃ lv : Nat, x = lv := ⟨x.toNat, by omega⟩
  go_wp2_with fail
  have HD2 : Hid (Dw w (w1.alloc (.cells #[.int .i64 0] 3)) g a n cap (w.heap.size + 1 + 1) (w.heap.size + 1) 1 [0] (.slice none 0 0) []) := HD1.out.below (low_alloc _ _)
  have HL2 : Hid (Lst w (w1.alloc (.cells #[.int .i64 0] 3)) w1.heap.size (w.heap.size + 1) (w.heap.size + 1 + 1) [0]) := ⟨row_fresh w1 (ints [0]) 3, ⟨_, World.alloc_heap_new w1 _⟩, by omega, by omega, by omega⟩
  go_loopw [5, 6] (fun l i wr => ∃ (k : Nat) (gp cp : Nat) (ps : List Int) (gl cl : Nat) (ls : List Int), k ≤ lv ∧ i = .int .i64 k ∧ l = .slice (some ⟨gl, 0, none⟩) ls.length cl ∧ 1 ≤ ls.length ∧ ls.length ≤ 18 ∧ 1 ≤ ps.length ∧ ps.length ≤ 18 ∧ Dw w wr g a n cap (w.heap.size + 1 + 1) gp cp ps (.slice none 0 0) [] ∧ Lst w wr gl gp (w.heap.size + 1 + 1) ls) (fun _ i _ => lv - (intOf i).toNat)
  case atStart => exact ⟨0, w.heap.size + 1, 1, [0], w1.heap.size, 1, [0], Nat.zero_le _, rfl, rfl, by simp, by simp, by simp, by simp, HD2.out, HL2.out⟩
  case round =>
    obtain ⟨k, gp, cp, ps, gl, cl, ls, hk, rfl, rfl, hl1, hl2, hp1, hp2, hd, hls⟩ := hrel
    have HD : Hid (Dw w wr g a n cap (w.heap.size + 1 + 1) gp cp ps (.slice none 0 0) []) := hd
    have HL : Hid (Lst w wr gl gp (w.heap.size + 1 + 1) ls) := hls
    clear hd hls HD2 HL2 HD1
    by_cases hlt : k < lv
    · have hk1 : (k : Int) < (lv : Int) := by omega
      go_wp2_with fail
      have HD3 : Hid (Dw w (wr.alloc (.cells #[] 3)) g a n cap (w.heap.size + 1 + 1) gp cp ps (.slice none 0 0) []) := HD.out.below (low_alloc _ _)
      have HL3 : Hid (Lst w (wr.alloc (.cells #[] 3)) gl gp (w.heap.size + 1 + 1) ls) := HL.out.below (low_alloc _ _)
      have HN3 : Hid (Nxt w (wr.alloc (.cells #[] 3)) wr.heap.size gp gl (w.heap.size + 1 + 1) 0 []) := by
        have h1 := HD.out.box.lt
        have h2 := (owns_block HD.out.par).2.2
        have h3 := HL.out.row.lt
        exact ⟨owns_mono (World.ownsRow_made wr #[] 0 (Nat.le_refl _) (by decide) rfl) (by omega), by omega, by omega, by omega, by omega⟩
      generalize wr.alloc (.cells #[] 3) = w3 at HD3 HL3 HN3
      generalize wr.heap.size = gn0 at *
      clear HD HL
      go_loopw [7, 26] (fun v i wr => ∃ (j gp cp : Nat) (ps : List Int) (gn cn : Nat) (xs : List Int), j ≤ ls.length ∧ i = .int .i64 j ∧ v = .slice (some ⟨gn, 0, none⟩) xs.length cn ∧ 1 ≤ ps.length ∧ ps.length ≤ 18 ∧ xs.length ≤ ps.length ∧ Dw w wr g a n cap (w.heap.size + 1 + 1) gp cp ps (.slice none 0 0) [] ∧ Lst w wr gl gp (w.heap.size + 1 + 1) ls ∧ Nxt w wr gn gp gl (w.heap.size + 1 + 1) cn xs) (fun _ i _ => ls.length - (intOf i).toNat)
      case atStart => exact ⟨0, gp, cp, ps, gn0, 0, [], Nat.zero_le _, rfl, rfl, hp1, hp2, by simp, HD3.out, HL3.out, HN3.out⟩
      case round =>
        clear HD3 HL3 HN3 hp1 hp2
        clear ps gp cp
        obtain ⟨j, gp, cp, ps, gn, cn, xs, hj, rfl, rfl, hp1, hp2, hxl, hd, hls, hnx⟩ := hrel
        have HD : Hid (Dw w wr g a n cap (w.heap.size + 1 + 1) gp cp ps (.slice none 0 0) []) := hd
        have HL : Hid (Lst w wr gl gp (w.heap.size + 1 + 1) ls) := hls
        have HN : Hid (Nxt w wr gn gp gl (w.heap.size + 1 + 1) cn xs) := hnx
        clear hd hls hnx
        by_cases hlt2 : j < ls.length
        · have hj0 : (0 : Int) ≤ (j : Int) := by omega
          have hj1 : (j : Int) < (ls.length : Int) := by omega
          have hcl := HL.out.row.cell j _ (ints_at ls j hlt2)
          generalize ls[j] = s at hcl
          go_wp2_with fail
          refine (l01Below_c g a n cap 3 (by decide) (by decide) wr HD.out.cur).mono ?_
          rintro e w4 ⟨y, rfl, hy0, hy1, hg, hc⟩
          have HD4 : Hid (Dw w w4 g a n cap (w.heap.size + 1 + 1) gp cp ps (.slice none 0 0) []) := HD.out.drawn hg hc
          have HL4 : Hid (Lst w w4 gl gp (w.heap.size + 1 + 1) ls) := HL.out.drawn hg hgl
          have HN4 : Hid (Nxt w w4 gn gp gl (w.heap.size + 1 + 1) cn xs) := HN.out.drawn hg hgl
          obtain ⟨y', rfl⟩ : ∃ y' : Nat, y = y' := ⟨y.toNat, by omega⟩
          clear hg hc HD HL HN hcl
          go_wp2_with fail
          go_loopw [7, 10] (fun v i wr => ∃ (q gp cp : Nat) (ps : List Int) (gn cn : Nat) (xs : List Int), q ≤ 3 ∧ i = .int .i64 q ∧ v = .slice (some ⟨gn, 0, none⟩) xs.length cn ∧ 1 ≤ ps.length ∧ ps.length ≤ 18 ∧ xs.length ≤ ps.length ∧ Dw w wr g a n cap (w.heap.size + 1 + 1) gp cp ps (.slice none 0 0) [] ∧ Lst w wr gl gp (w.heap.size + 1 + 1) ls ∧ Nxt w wr gn gp gl (w.heap.size + 1 + 1) cn xs) (fun _ i _ => (intOf i).toNat)
          case atStart => exact ⟨y' + 1, gp, cp, ps, gn, cn, xs, by omega, by go_num, rfl, hp1, hp2, hxl, HD4.out, HL4.out, HN4.out⟩
          case round =>
            clear HD4 HL4 HN4 hp1 hp2 hxl
            obtain ⟨q, gp, cp, ps, gn, cn, xs, hq, rfl, rfl, hp1, hp2, hxl, hd, hls, hnx⟩ := hrel
            have HD : Hid (Dw w wr g a n cap (w.heap.size + 1 + 1) gp cp ps (.slice none 0 0) []) := hd
            have HL : Hid (Lst w wr gl gp (w.heap.size + 1 + 1) ls) := hls
            have HN : Hid (Nxt w wr gn gp gl (w.heap.size + 1 + 1) cn xs) := hnx
            have b0 := hd.box.cell0
            clear hd hls hnx
            by_cases hq0 : 0 < q
            · have hqi : (0 : Int) < (q : Int) := by omega
              by_cases hpl : ps.length < 18
              · have hpi : (ps.length : Int) < 18 := by omega
                go_wp2_with (at_builtin; refine wpList_append_lies _ rfl _ _ 23 rfl w.heap.size 3 i0 (.int .i64 0) 1 8 Try.underlying23 hi hz0 hz1 hz2 rfl (by decide) _ _ _ rfl (HD.out.par.alloc _) ⟨wr.heap.size, 0, none⟩ 1 1 [.int .i64 s] rfl rfl ?c1 ?c2 (by decide) ?c3 ?c4 ?c5 (wr.heap.size + 1) ?c6 ?_)
                case c1 =>
                  intro k u hk
                  match k, hk with
                  | 0, hk => simp at hk; subst hk; simp [Addr.add]
                case c2 => intro u hu; simp at hu; subst hu; rfl
                case c3 => unfold maxLen; omega
                case c4 => omega
                case c5 => have := HD.out.grown.size; simp; omega
                case c6 => simp
                · intro gq cq w5 hown hgrow hat _
                  have hW : (wr.alloc (.cells #[.int .i64 s] 3)).heap.size = wr.heap.size + 1 := by simp
                  obtain ⟨hb5, hd6, hr6⟩ := (HD.out.below (low_alloc wr (.cells #[.int .i64 s] 3))).parent s hown hgrow (by rw [hW]; simpa [Value.ownBlock] using hat)
                  have e0 := hb5.cell0
                  have f0 := hb5.frozen 0
                  have HD6 : Hid (Dw w (w5.setCell ⟨w.heap.size + 1 + 1, 0, none⟩ (.slice (some ⟨gq, 0, none⟩) (ps.length + 1) cq)) g a n cap (w.heap.size + 1 + 1) gq cq (ps ++ [s]) (.slice none 0 0) []) := hd6
                  have hgq : gl ≠ gq ∧ gn ≠ gq := by
                    have h1 := HL.out.row.lt
                    have h2 := (owns_block HN.out.own).2.2
                    have h3 := HL.out.np
                    have h4 := HN.out.np
                    rcases hat with h | h
                    · have : gp = gq := by simpa [Value.ownBlock] using h
                      omega
                    · omega
                  have HL6 : Hid (Lst w (w5.setCell ⟨w.heap.size + 1 + 1, 0, none⟩ (.slice (some ⟨gq, 0, none⟩) (ps.length + 1) cq)) gl gq (w.heap.size + 1 + 1) ls) := ⟨hr6 gl _ (HL.out.row.below (low_alloc _ _)) HL.out.np HL.out.nb, HL.out.typ.imp fun _ e => ((Lib.grownBy_setCell w5 (w.heap.size + 1 + 1) 0 _).block gl (Nat.lt_of_lt_of_le (Nat.lt_of_lt_of_le HL.out.row.lt (by simp)) hgrow.size) (by intro e; exact HL.out.nb (Option.some.inj e))).trans ((hgrow.block gl (Nat.lt_of_lt_of_le HL.out.row.lt (by simp)) (by intro e; simp [Value.ownBlock] at e; exact HL.out.np e)).trans (((low_alloc wr _).block gl HL.out.row.lt).trans e)), HL.out.low, hgq.1, HL.out.nb⟩
                  have HN6 : Hid (Nxt w (w5.setCell ⟨w.heap.size + 1 + 1, 0, none⟩ (.slice (some ⟨gq, 0, none⟩) (ps.length + 1) cq)) gn gq gl (w.heap.size + 1 + 1) cn xs) :=
                    ⟨((HN.out.own.alloc _).kept hgrow (.inr (by intro e; simp [Value.ownBlock] at e; exact HN.out.np e))).kept (Lib.grownBy_setCell _ _ _ _) (.inr (by intro e; simp [Value.ownBlock] at e; exact HN.out.nb e)), HN.out.low, hgq.2, HN.out.nl, HN.out.nb⟩
                  clear hown hgrow hat hb5 hd6 hr6 hW hgq HD HL HN b0
                  have hl5 : w.heap.size + 1 + 1 < w5.heap.size := by have := HD6.out.box.lt; simpa using this
                  go_wp2_with (at_builtin; refine wpList_append_lies _ rfl _ _ 23 rfl w.heap.size 3 i0 (.int .i64 0) 1 8 Try.underlying23 hi hz0 hz1 hz2 rfl (by decide) _ _ _ rfl (HN6.out.own.alloc _) ⟨w5.heap.size, 0, none⟩ 1 1 [.int .i64 (ps.length : Int)] rfl rfl ?d1 ?d2 (by decide) ?d3 ?d4 ?d5 (w5.heap.size + 1) ?d6 ?_)
                  case d1 =>
                    intro k u hk
                    match k, hk with
                    | 0, hk =>
                      simp at hk
                      subst hk
                      have h := (row_fresh (w5.setCell ⟨w.heap.size + 1 + 1, 0, none⟩ (.slice (some ⟨gq, 0, none⟩) (ps.length + 1) cq)) [.int .i64 (ps.length : Int)] 3).cell 0 _ rfl
                      rw [show (w5.setCell ⟨w.heap.size + 1 + 1, 0, none⟩ (.slice (some ⟨gq, 0, none⟩) (ps.length + 1) cq)).heap.size = w5.heap.size by simp] at h
                      exact h
                  case d2 => intro u hu; simp at hu; subst hu; rfl
                  case d3 => unfold maxLen; omega
                  case d4 => omega
                  case d5 => have := HD6.out.grown.size; simp at this ⊢; omega
                  case d6 => simp
                  · intro gm cm w7 hown hgrow hat _
                    have HD7 := HD6.out.below (low_alloc (w5.setCell ⟨w.heap.size + 1 + 1, 0, none⟩ (.slice (some ⟨gq, 0, none⟩) (ps.length + 1) cq)) (.cells #[.int .i64 (ps.length : Int)] 3))
                    have HL7 := HL6.out.below (low_alloc (w5.setCell ⟨w.heap.size + 1 + 1, 0, none⟩ (.slice (some ⟨gq, 0, none⟩) (ps.length + 1) cq)) (.cells #[.int .i64 (ps.length : Int)] 3))
                    have hgm : gm ≠ gq ∧ gm ≠ gl ∧ gm ≠ w.heap.size + 1 + 1 ∧ w.heap.size < gm := by
                      have h1 := HL6.out.row.lt
                      have h2 := (owns_block HD6.out.par).2.2
                      have h3 := HN6.out.np
                      have h4 := HN6.out.nl
                      have h5 := HN6.out.nb
                      have h6 := HN6.out.low
                      simp at h1 h2
                      rcases hat with h | h
                      · have : gn = gm := by simpa [Value.ownBlock] using h
                        subst this
                        exact ⟨h3, h4, h5, h6⟩
                      · exact ⟨by omega, by omega, by omega, by omega⟩
                    have HD8 : Hid (Dw w w7 g a n cap (w.heap.size + 1 + 1) gq cq (ps ++ [s]) (.slice none 0 0) []) := HD7.other hgrow HN6.out.low HN6.out.np HN6.out.nb (by simp [Value.ownBlock])
                    have HL8 : Hid (Lst w w7 gl gq (w.heap.size + 1 + 1) ls) := ⟨HL7.row.far hgrow (by intro e; simp [Value.ownBlock] at e; exact HN6.out.nl e.symm), HL7.typ.imp fun _ e => (hgrow.block gl HL7.row.lt (by intro e; simp [Value.ownBlock] at e; exact HN6.out.nl e.symm)).trans e, HL6.out.low, HL6.out.np, HL6.out.nb⟩
                    have HN8 : Hid (Nxt w w7 gm gq gl (w.heap.size + 1 + 1) cm (xs ++ [(ps.length : Int)])) := ⟨by rw [List.length_append, ints, List.map_append]; exact hown, hgm.2.2.2, hgm.1, hgm.2.1, hgm.2.2.1⟩
                    have hxl2 : (xs ++ [(ps.length : Int)]).length ≤ (ps ++ [s]).length := by simp; omega
                    have hpl2 : (ps ++ [s]).length ≤ 18 := by simp; omega
                    have hpl1 : 1 ≤ (ps ++ [s]).length := by simp
                    have hsz : xs.length + 1 = (xs ++ [(ps.length : Int)]).length := by simp
                    clear hown hgrow hat hgm HD7 HL7 HD6 HL6 HN6 e0 f0
                    rw [hsz]
                    clear hsz
                    go_wp2_with fail
                    go_roundw
                    case rel => exact ⟨q - 1, gq, cq, ps ++ [s], gm, cm, xs ++ [(ps.length : Int)], by omega, by go_num, rfl, hpl1, hpl2, hxl2, HD8.out, HL8.out, HN8.out⟩
                    case measure => simp [intOf]; omega
              · have hpi : ¬ (ps.length : Int) < 18 := by omega
                go_wp2_with fail
                go_roundw
                case rel => exact ⟨j + 1, gp, cp, ps, gn, cn, xs, by omega, by go_num, rfl, hp1, hp2, hxl, HD.out, HL.out, HN.out⟩
                case measure => simp [intOf]; omega
            · obtain rfl : q = 0 := by omega
              go_wp2_with fail
              go_roundw
              case rel => exact ⟨j + 1, gp, cp, ps, gn, cn, xs, by omega, by go_num, rfl, hp1, hp2, hxl, HD.out, HL.out, HN.out⟩
              case measure => simp [intOf]; omega
        · by_cases hx0 : 0 < xs.length
          · have hxi : (0 : Int) < (xs.length : Int) := by omega
            have HL5 : Hid (Lst w wr gn gp (w.heap.size + 1 + 1) xs) := by
              obtain ⟨g5, c5, hv5, _, hr5⟩ := row_of_owns HN.out.own hx0
              cases hv5
              exact ⟨hr5, (owns_block HN.out.own).1, HN.out.low, HN.out.np, HN.out.nb⟩
            go_wp2_with fail
            go_roundw
            case rel => exact ⟨k + 1, gp, cp, ps, gn, cn, xs, by omega, by go_num, rfl, hx0, by omega, hp1, hp2, HD.out, HL5.out⟩
            case measure => simp [intOf]; omega
          · have hxi : ¬ (0 : Int) < (xs.length : Int) := by omega
            go_wp2_with fail
            go_roundw
            case rel => exact ⟨k + 1, gp, cp, ps, gl, cl, ls, by omega, by go_num, rfl, hl1, hl2, hp1, hp2, HD.out, HL.out⟩
            case measure => simp [intOf]; omega
    · obtain rfl : k = lv := by omega
      go_wp2_with fail
      refine (l01Below_c g a n cap 10 (by decide) (by decide) wr HD.out.cur).mono ?_
      rintro e w2 ⟨y, rfl, hy0, hy1, hg, hc⟩
      have HD2 : Hid (Dw w w2 g a n cap (w.heap.size + 1 + 1) gp cp ps (.slice none 0 0) []) := HD.out.drawn hg hc
      have HL2 : Hid (Lst w w2 gl gp (w.heap.size + 1 + 1) ls) := HL.out.drawn hg hgl
      obtain ⟨y', rfl⟩ : ∃ y' : Nat, y = y' := ⟨y.toNat, by omega⟩
      clear hg hc HD HL
      go_wp2_with fail
      go_loopw [11] (fun i wr => ∃ (q : Nat) (bN : Option Addr) (dN : Nat) (ns : List Nd), i = .int .i64 q ∧ q + ns.length ≤ 10 ∧ Dw w wr g a n cap (w.heap.size + 1 + 1) gp cp ps (.slice bN ns.length dN) ns ∧ Lst w wr gl gp (w.heap.size + 1 + 1) ls) (fun i _ => (intOf i).toNat)
      case atStart => exact ⟨y' + 1, none, 0, [], by go_num, by simp; omega, HD2.out, HL2.out⟩
      case round =>
        clear HD2 HL2
        obtain ⟨q, bN, dN, ns, rfl, hq, hd, hls⟩ := hrel
        have HD : Hid (Dw w wr g a n cap (w.heap.size + 1 + 1) gp cp ps (.slice bN ns.length dN) ns) := hd
        have HL : Hid (Lst w wr gl gp (w.heap.size + 1 + 1) ls) := hls
        clear hd hls
        by_cases hq0 : 0 < q
        · have hqi : (0 : Int) < (q : Int) := by omega
          go_wp2_with fail
          refine (l01Below_c g a n cap ls.length (by omega) (by omega) wr HD.out.cur).mono ?_
          rintro e w5 ⟨z, rfl, hz0, hz1, hg, hc⟩
          have HD5 : Hid (Dw w w5 g a n cap (w.heap.size + 1 + 1) gp cp ps (.slice bN ns.length dN) ns) := HD.out.drawn hg hc
          have HL5 : Hid (Lst w w5 gl gp (w.heap.size + 1 + 1) ls) := HL.out.drawn hg hgl
          obtain ⟨z', rfl⟩ : ∃ z' : Nat, z = z' := ⟨z.toNat, by omega⟩
          clear hg hc HD HL
          have hcl := HL5.out.row.cell z' _ (ints_at ls z' (by omega))
          generalize ls[z'] = s at hcl
          have b0 := HD5.out.box.cell0
          have b1 := HD5.out.box.cell1
          have HSq : Hid (Sq w5 (some ⟨gp, 0, none⟩) (ints ps)) := by
            obtain ⟨a1, c1, hv1, hs1⟩ := sq_of_owns HD5.out.par
            cases hv1
            exact hs1
          go_wp2_with fail
          refine (l02Kids_c (some ⟨gp, 0, none⟩) bN cp ns.length dN ps s (by omega) w5 HSq.out).mono ?_
          rintro e w6 ⟨ka, kc, rfl, _, hb6⟩
          have HD6 : Hid (Dw w w6 g a n cap (w.heap.size + 1 + 1) gp cp ps (.slice bN ns.length dN) ns) := HD5.out.below hb6
          have HL6 : Hid (Lst w w6 gl gp (w.heap.size + 1 + 1) ls) := HL5.out.below hb6
          clear hb6 HD5 HL5 hcl b0 b1 HSq
          generalize (kidsTo ps s ps.length).length = kn
          by_cases hkn : kn = 0
          · have hki : ((kn : Int) == 0) = true := by simp [hkn]
            clear hkn
            have b1 := HD6.out.box.cell1
            have f1 := HD6.out.box.frozen 1
            have HD7 : Hid (Dw w w6.drew g a n cap (w.heap.size + 1 + 1) gp cp ps (.slice bN ns.length dN) ns) := HD6.out.below ⟨rfl, rfl, rfl, Nat.le_refl _, fun _ _ => rfl⟩
            have HL7 : Hid (Lst w w6.drew gl gp (w.heap.size + 1 + 1) ls) := HL6.out.below ⟨rfl, rfl, rfl, Nat.le_refl _, fun _ _ => rfl⟩
            clear HD6 HL6
            go_wp2_with fail
            go_region_law (first
              | (refine step_append_lies _ rfl _ _ 24 rfl w.heap.size 35 n0 (.agg #[.int .i64 0, .int .i64 0, .int .i64 0, .int .i64 0]) 4 32 Try.underlying24 mi mz0 mz1 mz2 rfl (by decide) (.slice bN ns.length dN) ns.length (flat ns) rfl (HD10.out.nod.alloc _) ⟨w10.heap.size, 0, none⟩ 1 1 [.int .i64 s, .int .i64 (IntKind.i64.wrap (4 + y1)), .int .i64 (IntKind.i64.wrap (8 + y2)), .int .i64 y3] rfl rfl (cells4 _ _ _ _ _ _) (by simp [Value.oneCell']) (by decide) (by unfold maxLen; omega) (by omega) (by have := HD10.out.grown.size; simp; omega) (w10.heap.size + 1) (by simp) ?_; intro gq cq w11 hown hgrow hat _; obtain ⟨e1, hd12, hr12⟩ := (HD10.out.below (low_alloc w10 (.cells #[.int .i64 s, .int .i64 (IntKind.i64.wrap (4 + y1)), .int .i64 (IntKind.i64.wrap (8 + y2)), .int .i64 y3] 35))).node ⟨s, IntKind.i64.wrap (4 + y1), IntKind.i64.wrap (8 + y2), y3⟩ hown hgrow (by simpa using hat); have t1 := e1.cell1; have tf1 := e1.frozen 1; obtain ⟨cu, hcu⟩ := HL10.out.typ; have hr13 := hr12 gl _ cu (HL10.out.row.below (low_alloc w10 (.cells #[.int .i64 s, .int .i64 (IntKind.i64.wrap (4 + y1)), .int .i64 (IntKind.i64.wrap (8 + y2)), .int .i64 y3] 35))) (((low_alloc w10 _).block gl HL10.out.row.lt).trans hcu) HL10.out.nb; have HD12 : Hid (Dw w (w11.setCell ⟨w.heap.size + 1 + 1, 1, none⟩ (.slice (some ⟨gq, 0, none⟩) (ns.length + 1) cq)) g a n cap (w.heap.size + 1 + 1) gp cp ps (.slice (some ⟨gq, 0, none⟩) (ns.length + 1) cq) (ns ++ [⟨s, IntKind.i64.wrap (4 + y1), IntKind.i64.wrap (8 + y2), y3⟩])) := hd12; have HL12 : Hid (Lst w (w11.setCell ⟨w.heap.size + 1 + 1, 1, none⟩ (.slice (some ⟨gq, 0, none⟩) (ns.length + 1) cq)) gl gp (w.heap.size + 1 + 1) ls) := ⟨hr13.1, ⟨cu, hr13.2⟩, HL10.out.low, HL10.out.np, HL10.out.nb⟩; clear hown hgrow hat e1 hd12 hr12 hr13 hcu)
              | (go_simp; go_at_call_of 25 (Value.int IntKind.i64 5); refine (l01Below_c g a n cap 5 (by decide) (by decide) w6.drew HD7.out.cur).mono ?_; rintro e w8 ⟨y1, rfl, hy10, hy11, hg8, hc8⟩; have HD8 : Hid (Dw w w8 g a n cap (w.heap.size + 1 + 1) gp cp ps (.slice bN ns.length dN) ns) := HD7.out.drawn hg8 hc8; have HL8 : Hid (Lst w w8 gl gp (w.heap.size + 1 + 1) ls) := HL7.out.drawn hg8 hgl; have b8 := HD8.out.box.cell1; have f8 := HD8.out.box.frozen 1; clear hg8 hc8)
              | (go_simp; go_at_call_of 25 (Value.int IntKind.i64 9); refine (l01Below_c g a n cap 9 (by decide) (by decide) w8 HD8.out.cur).mono ?_; rintro e w9 ⟨y2, rfl, hy20, hy21, hg9, hc9⟩; have HD9 : Hid (Dw w w9 g a n cap (w.heap.size + 1 + 1) gp cp ps (.slice bN ns.length dN) ns) := HD8.out.drawn hg9 hc9; have HL9 : Hid (Lst w w9 gl gp (w.heap.size + 1 + 1) ls) := HL8.out.drawn hg9 hgl; have b9 := HD9.out.box.cell1; have f9 := HD9.out.box.frozen 1; clear hg9 hc9)
              | (go_simp; go_at_call_of 25 (Value.int IntKind.i64 3); refine (l01Below_c g a n cap 3 (by decide) (by decide) w9 HD9.out.cur).mono ?_; rintro e w10 ⟨y3, rfl, hy30, hy31, hg10, hc10⟩; have HD10 : Hid (Dw w w10 g a n cap (w.heap.size + 1 + 1) gp cp ps (.slice bN ns.length dN) ns) := HD9.out.drawn hg10 hc10; have HL10 : Hid (Lst w w10 gl gp (w.heap.size + 1 + 1) ls) := HL9.out.drawn hg10 hgl; have b10 := HD10.out.box.cell1; have f10 := HD10.out.box.frozen 1; have HDa := HD10.out.below (low_alloc w10 (.cells #[.int .i64 s, .int .i64 (IntKind.i64.wrap (4 + y1)), .int .i64 (IntKind.i64.wrap (8 + y2)), .int .i64 y3] 35)); have ba := HDa.box.cell1; have fa := HDa.box.frozen 1; clear HDa; clear hg10 hc10))
            all_goals
              clear t1 tf1 b1 f1 b8 f8 b9 f9 b10 f10 ba fa
              clear hy10 hy11 hy20 hy21 hy30 hy31 HD7 HL7 HD8 HL8 HD9 HL9 HD10 HL10
              try go_simp
              go_wp2_with fail
              go_roundw
              case rel => exact ⟨q - 1, some ⟨gq, 0, none⟩, cq, ns ++ [⟨s, IntKind.i64.wrap (4 + y1), IntKind.i64.wrap (8 + y2), y3⟩], by go_num, by simp; omega, by rw [List.length_append]; exact HD12.out, HL12.out⟩
              case measure => simp [intOf]; omega
          · have hki : ((kn : Int) == 0) = false := by simp; omega
            go_wp2_with fail
            go_roundw
            case rel => exact ⟨q - 1, bN, dN, ns, by go_num, by omega, HD6.out, HL6.out⟩
            case measure => simp [intOf]; omega
        · obtain rfl : q = 0 := by omega
          have b0 := HD.out.box.cell0
          have b1 := HD.out.box.cell1
          have r0 := HD.out.res.cell0
          have r1 := HD.out.res.cell1
          have rf0 := HD.out.res.frozen 0
          have rf1 := HD.out.res.frozen 1
          obtain ⟨d1, d2, d3, d4, d5⟩ := HD.out.done
          have c0 := d1.cell0
          have c1 := d1.cell1
          go_wp2_with fail
          exact bodyPost_ret (v := .agg #[.slice (some ⟨gp, 0, none⟩) ps.length cp, .slice bN ns.length dN]) (by simp [results, Try.results24, go_sem, c0, c1]) rfl ⟨gp, cp, ps, _, ns, rfl, hp1, hp2, by omega, d2, d3, d4, d5⟩
end Go.Proofs.Ytcjamjfdkpgjkaa
