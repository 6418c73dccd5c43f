/- FnCharge: for every code the law returns true: who is charged has more used, nobody else has, fading halves; no condition. -/
import Derived.Test.YtpjfampfhofeaaaShC
import Derived.Test.YtpjfampfhofeaaaCurE
import Derived.Deep.DeepCutAuto
import Derived.Test.YtpjfampfhofeaaaCurC
import Derived.Test.YtpjfampfhofeaaaJbA
import Derived.Test.YtpjfampfhofeaaaSjL
import Derived.Test.YtpjfampfhofeaaaShI
import Derived.Test.YtpjfampfhofeaaaCurA
import Derived.ProofKit
import Derived.Test.YtpjfampfhofeaaaRows
import Derived.Test.YtpjfampfhofeaaaChecked
import Derived.OpenShut
namespace Go.Proofs.Ytpjfampfhofeaaa
open Go.ChangeShapes Go.WideShapes Go.ChangeAt Go.RowKit

theorem flatAc_put {l : List Ac} {i q : Nat} {v : Value} (x : Ac) (h : i < l.length) (hq : q < 3) (hx : x.cells = (l[i].cells).set q v) : (flatAc l).set (i * 3 + q) v = flatAc (l.set i x) := by
  apply List.ext_getElem?
  intro m
  have hlen := flatAc_len l
  have hlen2 := flatAc_len (l.set i x)
  rw [List.length_set] at hlen2
  by_cases hm : m < 3 * l.length
  · have h2 := flatAc_get (l.set i x) (m / 3) (m % 3) (by rw [List.length_set]; omega) (by omega)
    have h1 := flatAc_get l (m / 3) (m % 3) (by omega) (by omega)
    rw [show m / 3 * 3 + m % 3 = m by omega] at h1 h2
    rw [h2]
    by_cases e : m / 3 = i
    · subst e
      rw [show (l.set (m / 3) x)[m / 3]'(by rw [List.length_set]; omega) = x by simp, hx]
      by_cases e2 : m % 3 = q
      · rw [show m / 3 * 3 + q = m by omega, List.getElem?_set_self (by omega), e2, List.getElem?_set_self (by rw [Ac.len]; omega)]
      · rw [List.getElem?_set_ne (by omega), h1, List.getElem?_set_ne (fun t => e2 t.symm)]
    · rw [List.getElem?_set_ne (by omega), h1]
      rw [show (l.set i x)[m / 3]'(by rw [List.length_set]; omega) = l[m / 3]'(by omega) by rw [List.getElem_set_ne (fun e' => e e'.symm)]]
  · rw [List.getElem?_eq_none (by rw [List.length_set]; omega), List.getElem?_eq_none (by omega)]
theorem grownOwn {w W W' : World} {g : Nat} {r : Option Nat} (h : w.grownBy W (some g)) (h2 : W.grownBy W' r) (hr : ∀ k, r = some k → w.heap.size ≤ k) : w.grownBy W' (some g) :=
  ⟨h2.os.trans h.os, h2.tape.trans h.tape, h2.output.trans h.output, Nat.le_trans h.size h2.size, fun k hk hne => (h2.block k (Nat.lt_of_lt_of_le hk h.size) (fun e => by have := hr k e.symm; omega)).trans (h.block k hk hne)⟩
theorem word_at {xs : List Value} {k n : Nat} (h : ∀ u ∈ xs, ∃ s : ByteArray, u = .string s ∧ s.size ≤ 16) (hn : xs.length = n) (hk : k < n) : ∃ s : ByteArray, xs[k]? = some (.string s) ∧ s.size ≤ 16 := by
  have hk' : k < xs.length := by omega
  obtain ⟨s, e, hs⟩ := h _ (List.getElem_mem hk')
  exact ⟨s, by rw [List.getElem?_eq_getElem hk', e], hs⟩
theorem words_small : ∀ u ∈ ([.string ⟨#[97, 114, 116]⟩, .string ⟨#[98, 105, 111]⟩, .string ⟨#[99, 104, 101, 109]⟩, .string ⟨#[100, 97, 116, 97]⟩] : List Value), ∃ s : ByteArray, u = .string s ∧ s.size ≤ 16 := fun u hu => by
  simp only [List.mem_cons, List.not_mem_nil, or_false] at hu
  rcases hu with rfl | rfl | rfl | rfl <;> exact ⟨_, rfl, by decide⟩
theorem names_small : ∀ u ∈ ([.string ⟨#[97, 114, 116]⟩, .string ⟨#[98, 105, 111]⟩, .string ⟨#[99, 104, 101, 109]⟩, .string ⟨#[100, 97, 116, 97]⟩, .string ⟨#[122, 111, 111]⟩, .string ⟨#[]⟩] : List Value), ∃ s : ByteArray, u = .string s ∧ s.size ≤ 16 := fun u hu => by
  simp only [List.mem_cons, List.not_mem_nil, or_false] at hu
  rcases hu with rfl | rfl | rfl | rfl | rfl | rfl <;> exact ⟨_, rfl, by decide⟩
theorem bads_small : ∀ u ∈ ([.string ⟨#[]⟩, .string ⟨#[65, 114, 116]⟩, .string ⟨#[97, 98, 99, 100, 101, 102, 103, 104, 105]⟩, .string ⟨#[122, 122]⟩] : List Value), ∃ s : ByteArray, u = .string s ∧ s.size ≤ 16 := fun u hu => by
  simp only [List.mem_cons, List.not_mem_nil, or_false] at hu
  rcases hu with rfl | rfl | rfl | rfl <;> exact ⟨_, rfl, by decide⟩
/-- What a draw of accounts carries. -/
structure Da (w W : World) (g : Nat) (a : Option Addr) (n cap b c : Nat) (l : List Ac) : Prop where
  own : W.ownsRow w.heap.size 30 3 (.slice (some ⟨b, 0, none⟩) l.length c) l.length (flatAc l)
  cur : Cur W g a n cap
  gr : w.grownBy W (some g)
  sm : ∀ x ∈ l, x.nm.size ≤ 16
theorem Da.ne {w W : World} {g n cap b c : Nat} {a : Option Addr} {l : List Ac} (h : Da w W g a n cap b c l) (hg : g < w.heap.size) : b ≠ g := by
  have := (h.own.lt b rfl).1; omega
theorem Da.drawn {w W W' : World} {g n cap b c : Nat} {a : Option Addr} {l : List Ac} (h : Da w W g a n cap b c l) (hg : g < w.heap.size) (h2 : W.grownBy W' (some g)) (hc : Cur W' g a n cap) : Da w W' g a n cap b c l :=
  ⟨h.own.kept h2 (.inr (fun e => h.ne hg (Option.some.inj e))), hc, h.gr.trans h2, h.sm⟩
theorem Da.below {w W W' : World} {g n cap b c : Nat} {a : Option Addr} {l : List Ac} (h : Da w W g a n cap b c l) (hb : Below W.heap.size W W') : Da w W' g a n cap b c l :=
  ⟨owsBelow h.own hb, h.cur.below hb, h.gr.trans ⟨hb.os, hb.tape, hb.output, hb.size, fun k hk _ => hb.block k hk⟩, h.sm⟩
/-- A block of the draw's own is written. -/
theorem Da.apart {w W : World} {g n cap b c q : Nat} {a : Option Addr} {l : List Ac} (h0 : Cur w g a n cap) (h : Da w W g a n cap b c l) (hq : w.heap.size ≤ q) (hbq : b ≠ q) (i : Nat) (v : Value) : Da w (W.setCell ⟨q, i, none⟩ v) g a n cap b c l :=
  have hg : w.grownBy (W.setCell ⟨q, i, none⟩ v) (some g) := grownOwn h.gr (Lib.grownBy_setCell W q i v) (fun k hk => by cases hk; exact hq)
  ⟨h.own.kept (Lib.grownBy_setCell W q i v) (.inr (fun e => hbq (Option.some.inj e))), h0.on hg h.cur (Lib.grownBy_setCell W q i v) (by have := h0.lt; omega), hg, h.sm⟩
/-- One is changed. -/
theorem Da.put {w W : World} {g n cap b c i q : Nat} {a : Option Addr} {l : List Ac} {v : Value} (h0 : Cur w g a n cap) (h : Da w W g a n cap b c l) (x : Ac) (hi : i < l.length) (hq : q < 3) (hx : x.cells = (l[i].cells).set q v) (hs : x.nm.size ≤ 16) :
    Da w (W.setCell ⟨b, i * 3 + q, none⟩ v) g a n cap b c (l.set i x) := by
  have hb := (h.own.lt b rfl).1
  have hg : w.grownBy (W.setCell ⟨b, i * 3 + q, none⟩ v) (some g) := grownOwn h.gr (Lib.grownBy_setCell W b (i * 3 + q) v) (fun k hk => by cases hk; exact hb)
  refine ⟨?_, h0.on hg h.cur (Lib.grownBy_setCell W b (i * 3 + q) v) (by have := h0.lt; omega), hg, fun y hy => ?_⟩
  · rw [List.length_set, ← flatAc_put x hi hq hx]
    exact (World.ownsRow.stored h.own (i * 3 + q) v).1
  · rcases List.mem_or_eq_of_mem_set hy with hy | rfl
    · exact h.sm y hy
    · exact hs
/-- One more. -/
theorem Da.more {w W W' : World} {g n cap b c b' c' : Nat} {a : Option Addr} {l : List Ac} (h0 : Cur w g a n cap) (h : Da w W g a n cap b c l) (x : Ac) (hs : x.nm.size ≤ 16)
    (hown : W'.ownsRow w.heap.size 30 3 (.slice (some ⟨b', 0, none⟩) (l.length + 1) c') (l.length + 1) (flatAc l ++ x.cells)) (hgr : W.grownBy W' (some b)) : Da w W' g a n cap b' c' (l ++ [x]) := by
  have hb := (h.own.lt b rfl).1
  have hg : w.grownBy W' (some g) := grownOwn h.gr hgr (fun k hk => by cases hk; exact hb)
  refine ⟨?_, h0.on hg h.cur hgr (by have := h0.lt; omega), hg, fun y hy => ?_⟩
  · rw [List.length_append, flatAc_add]
    exact (show flatAc [x] = x.cells by simp [flatAc]) ▸ hown
  · rcases List.mem_append.1 hy with hy | hy
    · exact h.sm y hy
    · rw [List.mem_singleton.1 hy]; exact hs
end Go.Proofs.Ytpjfampfhofeaaa

namespace Go.Proofs.Ytpjfampfhofeaaa
open Go.ChangeShapes Go.WideShapes Go.ChangeAt Go.RowKit

set_option maxHeartbeats 4000000 in
set_option maxRecDepth 100000 in
theorem l11Draw_c (g : Nat) (a : Option Addr) (n cap : Nat) (w : World) (h : Cur w g a n cap) :
    Calls Try.prog 60 #[.pointer (some ⟨g, 0, none⟩)] w fun e w' => ∃ (b c : Nat) (l : List Ac), e = .returned (.slice (some ⟨b, 0, none⟩) l.length c) ∧ l.length ≤ 4 ∧ Da w w' g a n cap b c l := by
  have H : Hid (Cur w g a n cap) := h
  have hgl := h.lt
  clear h
  obtain ⟨i0, hi2, hz0, hz1, hz2⟩ := info_parts infoAcc
  go_enter Try.func60, Try.ntmps60
  go_wp2_with fail
  have HD0 : Hid (Da w ((w.alloc (.cells #[] 30)).alloc (.cells #[.string ⟨#[97, 114, 116]⟩, .string ⟨#[98, 105, 111]⟩, .string ⟨#[99, 104, 101, 109]⟩, .string ⟨#[100, 97, 116, 97]⟩] 9)) g a n cap w.heap.size 0 []) := ⟨(World.ownsRow_made w #[] 0 (Nat.le_refl _) (by decide) rfl).alloc _, H.out.below (behind_alloc (low_alloc _ _) _), (World.grownBy_alloc w _ _).trans (World.grownBy_alloc _ _ _), fun x hx => by cases hx⟩
  have HS0 : Hid (Row ((w.alloc (.cells #[] 30)).alloc (.cells #[.string ⟨#[97, 114, 116]⟩, .string ⟨#[98, 105, 111]⟩, .string ⟨#[99, 104, 101, 109]⟩, .string ⟨#[100, 97, 116, 97]⟩] 9)) (w.heap.size + 1) [.string ⟨#[97, 114, 116]⟩, .string ⟨#[98, 105, 111]⟩, .string ⟨#[99, 104, 101, 109]⟩, .string ⟨#[100, 97, 116, 97]⟩]) := by
    have h := row_fresh (w.alloc (.cells #[] 30)) [.string ⟨#[97, 114, 116]⟩, .string ⟨#[98, 105, 111]⟩, .string ⟨#[99, 104, 101, 109]⟩, .string ⟨#[100, 97, 116, 97]⟩] 9
    rwa [show (w.alloc (.cells #[] 30)).heap.size = w.heap.size + 1 by simp [go_sem]] at h
  generalize ((w.alloc (.cells #[] 30)).alloc (.cells #[.string ⟨#[97, 114, 116]⟩, .string ⟨#[98, 105, 111]⟩, .string ⟨#[99, 104, 101, 109]⟩, .string ⟨#[100, 97, 116, 97]⟩] 9)) = w2 at HD0 HS0 ⊢
  go_loopw [10, 3] (fun iv lv wr => ∃ (k b c : Nat) (l : List Ac), k ≤ 4 ∧ iv = .int .i64 k ∧ lv = .slice (some ⟨b, 0, none⟩) l.length c ∧ l.length ≤ k ∧ b ≠ w.heap.size + 1 ∧ Da w wr g a n cap b c l ∧ Row wr (w.heap.size + 1) [.string ⟨#[97, 114, 116]⟩, .string ⟨#[98, 105, 111]⟩, .string ⟨#[99, 104, 101, 109]⟩, .string ⟨#[100, 97, 116, 97]⟩]) (fun iv _ _ => 4 - (intOf iv).toNat)
  case atStart => exact ⟨0, w.heap.size, 0, [], by omega, rfl, rfl, Nat.le_refl _, by omega, HD0.out, HS0.out⟩
  case round =>
    obtain ⟨k, b, c, l, hk, rfl, rfl, hl, hbs, hd, hs⟩ := hrel
    have HD : Hid (Da w wr g a n cap b c l) := hd
    have HS : Hid (Row wr (w.heap.size + 1) [.string ⟨#[97, 114, 116]⟩, .string ⟨#[98, 105, 111]⟩, .string ⟨#[99, 104, 101, 109]⟩, .string ⟨#[100, 97, 116, 97]⟩]) := hs
    have hgs : g ≠ w.heap.size + 1 := by omega
    clear hd hs HD0 HS0
    by_cases hk4 : k < 4
    · have hk0 : (0 : Int) ≤ (k : Int) := by omega
      have hk1 : (k : Int) < 4 := by omega
      obtain ⟨s, hws, hsz⟩ := word_at words_small (n := 4) rfl hk4
      have c0 := HS.out.cell k _ hws
      clear hws
      go_wp2_with fail
      refine (l01Below_c g a n cap 4 (by decide) (by decide) _ HD.out.cur).mono ?_
      rintro e w3 ⟨y, rfl, hy0, hy1, hg, hc⟩
      have HD3 : Hid (Da w w3 g a n cap b c l) := HD.out.drawn hgl hg hc
      have HS3 : Hid (Row w3 (w.heap.size + 1) [.string ⟨#[97, 114, 116]⟩, .string ⟨#[98, 105, 111]⟩, .string ⟨#[99, 104, 101, 109]⟩, .string ⟨#[100, 97, 116, 97]⟩]) := HS.out.far hg (fun e => hgs (Option.some.inj e).symm)
      clear hg hc HD HS c0
      by_cases hy : 0 < y
      · go_wp2_with fail
        refine (l01Below_c g a n cap 5 (by decide) (by decide) _ HD3.out.cur).mono ?_
        rintro e w4 ⟨m, rfl, hm0, hm1, hg, hc⟩
        have HD4 : Hid (Da w w4 g a n cap b c l) := HD3.out.drawn hgl hg hc
        have HS4 : Hid (Row w4 (w.heap.size + 1) [.string ⟨#[97, 114, 116]⟩, .string ⟨#[98, 105, 111]⟩, .string ⟨#[99, 104, 101, 109]⟩, .string ⟨#[100, 97, 116, 97]⟩]) := HS3.out.far hg (fun e => hgs (Option.some.inj e).symm)
        clear hg hc HD3 HS3
        obtain ⟨sh, hsh⟩ : ∃ sh : Int, sh = 1 + m := ⟨_, rfl⟩
        have hsm : 1 + m = sh := hsh.symm
        have hsh0 : 0 ≤ sh := by omega
        have hsh1 : sh ≤ 5 := by omega
        clear hsh
        go_wp2_with fail
        refine (l01Below_c g a n cap 30 (by decide) (by decide) _ HD4.out.cur).mono ?_
        rintro e w5 ⟨us, rfl, hu0, hu1, hg, hc⟩
        have HD5 : Hid (Da w w5 g a n cap b c l) := HD4.out.drawn hgl hg hc
        have HS5 : Hid (Row w5 (w.heap.size + 1) [.string ⟨#[97, 114, 116]⟩, .string ⟨#[98, 105, 111]⟩, .string ⟨#[99, 104, 101, 109]⟩, .string ⟨#[100, 97, 116, 97]⟩]) := HS4.out.far hg (fun e => hgs (Option.some.inj e).symm)
        clear hg hc HD4 HS4
        have HQ6 : Hid (Row (w5.alloc (.cells #[.string s, .int .i64 sh, .int .i64 us] 30)) w5.heap.size [.string s, .int .i64 sh, .int .i64 us]) := row_fresh w5 [.string s, .int .i64 sh, .int .i64 us] 30
        have HD6 : Hid (Da w (w5.alloc (.cells #[.string s, .int .i64 sh, .int .i64 us] 30)) g a n cap b c l) := HD5.out.below (low_alloc _ _)
        have HS6 : Hid (Row (w5.alloc (.cells #[.string s, .int .i64 sh, .int .i64 us] 30)) (w.heap.size + 1) [.string ⟨#[97, 114, 116]⟩, .string ⟨#[98, 105, 111]⟩, .string ⟨#[99, 104, 101, 109]⟩, .string ⟨#[100, 97, 116, 97]⟩]) := HS5.out.below (low_alloc _ _)
        have hq1 := HS5.out.lt
        have hq2 := (HD5.out.own.lt b rfl).2
        have hq3 := HD5.out.cur.lt
        go_wp2_with fail
        generalize w5.alloc (.cells #[.string s, .int .i64 sh, .int .i64 us] 30) = w6 at HQ6 HD6 HS6
        have hqs : w.heap.size + 1 ≠ w5.heap.size := by omega
        have hqb : b ≠ w5.heap.size := by omega
        have hqg : g ≠ w5.heap.size := by omega
        have hqw : w.heap.size ≤ w5.heap.size := by omega
        generalize w5.heap.size = q at HQ6 hqs hqb hqg hqw ⊢
        clear HD5 HS5 hq1 hq2 hq3 hsm
        refine (l01Below_c g a n cap 9 (by decide) (by decide) _ HD6.out.cur).mono ?_
        rintro e w7 ⟨z, rfl, hz0', hz1', hg, hc⟩
        have HD7 : Hid (Da w w7 g a n cap b c l) := HD6.out.drawn hgl hg hc
        have HS7 : Hid (Row w7 (w.heap.size + 1) [.string ⟨#[97, 114, 116]⟩, .string ⟨#[98, 105, 111]⟩, .string ⟨#[99, 104, 101, 109]⟩, .string ⟨#[100, 97, 116, 97]⟩]) := HS6.out.far hg (fun e => hgs (Option.some.inj e).symm)
        have HQ7 : Hid (Row w7 q [.string s, .int .i64 sh, .int .i64 us]) := HQ6.out.far hg (fun e => hqg (Option.some.inj e).symm)
        clear hg hc HD6 HS6 HQ6
        go_upto_if 26 with fail
        go_cut [] (fun wc => ∃ us' : Int, Row wc q [.string s, .int .i64 sh, .int .i64 us'] ∧ Da w wc g a n cap b c l ∧ Row wc (w.heap.size + 1) [.string ⟨#[97, 114, 116]⟩, .string ⟨#[98, 105, 111]⟩, .string ⟨#[99, 104, 101, 109]⟩, .string ⟨#[100, 97, 116, 97]⟩])
        case first =>
          by_cases h0 : z = 0
          · have hi : (z == 0) = true := by simp [h0]
            clear h0
            go_wp2_with fail
            refine (l01Below_c g a n cap 3 (by decide) (by decide) _ HD7.out.cur).mono ?_
            rintro e w8 ⟨t, rfl, ht0, ht1, hg, hc⟩
            have HD8 : Hid (Da w w8 g a n cap b c l) := HD7.out.drawn hgl hg hc
            have HS8 : Hid (Row w8 (w.heap.size + 1) [.string ⟨#[97, 114, 116]⟩, .string ⟨#[98, 105, 111]⟩, .string ⟨#[99, 104, 101, 109]⟩, .string ⟨#[100, 97, 116, 97]⟩]) := HS7.out.far hg (fun e => hgs (Option.some.inj e).symm)
            have HQ8 : Hid (Row w8 q [.string s, .int .i64 sh, .int .i64 us]) := HQ7.out.far hg (fun e => hqg (Option.some.inj e).symm)
            clear hg hc HD7 HS7 HQ7
            have d2 := HQ8.out.cell 2 _ rfl
            have f2 := HQ8.out.free 2
            have HQ9 : Hid (Row (w8.setCell ⟨q, 2, none⟩ (.int .i64 (1000000000 - t))) q [.string s, .int .i64 sh, .int .i64 (1000000000 - t)]) := HQ8.out.set 2 (by simp) _
            have HD9 : Hid (Da w (w8.setCell ⟨q, 2, none⟩ (.int .i64 (1000000000 - t))) g a n cap b c l) := Da.apart H.out HD8.out hqw hqb 2 _
            have HS9 : Hid (Row (w8.setCell ⟨q, 2, none⟩ (.int .i64 (1000000000 - t))) (w.heap.size + 1) [.string ⟨#[97, 114, 116]⟩, .string ⟨#[98, 105, 111]⟩, .string ⟨#[99, 104, 101, 109]⟩, .string ⟨#[100, 97, 116, 97]⟩]) := HS8.out.apart q 2 _ hqs
            go_wp2_with fail
            go_meet
            case rel => exact ⟨_, HQ9.out, HD9.out, HS9.out⟩
          · have hi : (z == 0) = false := by simp [h0]
            clear h0
            go_wp2_with fail
            go_meet
            case rel => exact ⟨us, HQ7.out, HD7.out, HS7.out⟩
        case rest =>
        obtain ⟨us', hq, hd, hs⟩ := hcut
        obtain ⟨w9, hw9⟩ : ∃ u, u = wc := ⟨_, rfl⟩
        subst hw9
        have HQ9 : Hid (Row w9 q [.string s, .int .i64 sh, .int .i64 us']) := hq
        have HD9 : Hid (Da w w9 g a n cap b c l) := hd
        have HS9 : Hid (Row w9 (w.heap.size + 1) [.string ⟨#[97, 114, 116]⟩, .string ⟨#[98, 105, 111]⟩, .string ⟨#[99, 104, 101, 109]⟩, .string ⟨#[100, 97, 116, 97]⟩]) := hs
        clear hq hd hs HD7 HS7 HQ7 hz0' hz1'
        have d0 := HQ9.out.cell 0 _ rfl
        have d1 := HQ9.out.cell 1 _ rfl
        have d2 := HQ9.out.cell 2 _ rfl
        have HDa : Hid (Da w (w9.alloc (.cells #[.string s, .int .i64 sh, .int .i64 us'] 30)) g a n cap b c l) := HD9.out.below (low_alloc _ _)
        have HSa : Hid (Row (w9.alloc (.cells #[.string s, .int .i64 sh, .int .i64 us'] 30)) (w.heap.size + 1) [.string ⟨#[97, 114, 116]⟩, .string ⟨#[98, 105, 111]⟩, .string ⟨#[99, 104, 101, 109]⟩, .string ⟨#[100, 97, 116, 97]⟩]) := HS9.out.below (low_alloc _ _)
        have hsa := HDa.out.gr.size
        have hss := HSa.out.lt
        go_wp2_with (at_builtin; refine wpList_append_own_at _ rfl _ _ 23 rfl w.heap.size 30 i0 (.agg #[.string ⟨#[]⟩, .int .i64 0, .int .i64 0]) 3 32 Try.underlying23 hi2 hz0 hz1 hz2 rfl (by decide) (.slice (some ⟨b, 0, none⟩) l.length c) l.length (flatAc l) rfl HDa.out.own ⟨w9.heap.size, 0, none⟩ 1 1 [.string s, .int .i64 sh, .int .i64 us'] rfl rfl ?c1 ?c2 ?c3 ?c4 ?c5 ?_)
        case c1 =>
          intro j v hv
          rw [add_plain, Nat.zero_add]
          exact (row_fresh w9 [.string s, .int .i64 sh, .int .i64 us'] 30).cell j v hv
        case c2 => simp [Value.oneCell']
        case c3 => unfold maxLen; omega
        case c4 => omega
        case c5 => exact hsa
        · intro v' wb hown hgrow _ hat
          obtain ⟨b', c', rfl⟩ : ∃ b' c', v' = .slice (some ⟨b', 0, none⟩) (l.length + 1) c' := by
            rcases hown.2 with ⟨_, hz⟩ | ⟨g', cap, _, e, _⟩
            · omega
            · exact ⟨g', cap, e⟩
          have hb' : b' ≠ w.heap.size + 1 := fun e => by
            rcases hat with h | h
            · exact hbs ((Option.some.inj h).symm.trans e)
            · have h2 : b' = w9.heap.size + 1 := Option.some.inj h
              have h3 := HS9.out.lt
              omega
          have HDb : Hid (Da w wb g a n cap b' c' (l ++ [⟨s, sh, us'⟩])) := Da.more H.out HDa.out ⟨s, sh, us'⟩ hsz hown hgrow
          have HSb : Hid (Row wb (w.heap.size + 1) [.string ⟨#[97, 114, 116]⟩, .string ⟨#[98, 105, 111]⟩, .string ⟨#[99, 104, 101, 109]⟩, .string ⟨#[100, 97, 116, 97]⟩]) := HSa.out.far hgrow (fun e => hbs (Option.some.inj e).symm)
          clear hown hgrow hat HDa HSa hsa hss HQ9 HD9 HS9 d0 d1 d2
          go_wp2_with fail
          go_roundw
          case rel => exact ⟨k + 1, b', c', l ++ [⟨s, sh, us'⟩], by omega, by go_num, by rw [List.length_append]; rfl, by rw [List.length_append]; simp; omega, hb', HDb.out, HSb.out⟩
          case measure => simp [intOf]; omega
      · go_wp2_with fail
        go_roundw
        case rel => exact ⟨k + 1, b, c, l, by omega, by go_num, rfl, by omega, hbs, HD3.out, HS3.out⟩
        case measure => simp [intOf]; omega
    · go_wp2_with fail
      go_ret
      exact ⟨b, c, l, rfl, by omega, HD.out⟩
set_option maxHeartbeats 1000000 in
theorem l11Name_c (g : Nat) (a : Option Addr) (n cap : Nat) (w : World) (h : Cur w g a n cap) :
    Calls Try.prog 47 #[.pointer (some ⟨g, 0, none⟩)] w fun e w' => ∃ s : ByteArray, e = .returned (.string s) ∧ s.size ≤ 16 ∧ Cur w' g a n cap ∧ w.grownBy w' (some g) := by
  have H : Hid (Cur w g a n cap) := h
  have hgl := h.lt
  clear h
  go_enter Try.func47, Try.ntmps47
  go_wp2_with fail
  have HS : Hid (Row (w.alloc (.cells #[.string ⟨#[97, 114, 116]⟩, .string ⟨#[98, 105, 111]⟩, .string ⟨#[99, 104, 101, 109]⟩, .string ⟨#[100, 97, 116, 97]⟩, .string ⟨#[122, 111, 111]⟩, .string ⟨#[]⟩] 9)) w.heap.size [.string ⟨#[97, 114, 116]⟩, .string ⟨#[98, 105, 111]⟩, .string ⟨#[99, 104, 101, 109]⟩, .string ⟨#[100, 97, 116, 97]⟩, .string ⟨#[122, 111, 111]⟩, .string ⟨#[]⟩]) := row_fresh w [.string ⟨#[97, 114, 116]⟩, .string ⟨#[98, 105, 111]⟩, .string ⟨#[99, 104, 101, 109]⟩, .string ⟨#[100, 97, 116, 97]⟩, .string ⟨#[122, 111, 111]⟩, .string ⟨#[]⟩] 9
  have HC : Hid (Cur (w.alloc (.cells #[.string ⟨#[97, 114, 116]⟩, .string ⟨#[98, 105, 111]⟩, .string ⟨#[99, 104, 101, 109]⟩, .string ⟨#[100, 97, 116, 97]⟩, .string ⟨#[122, 111, 111]⟩, .string ⟨#[]⟩] 9)) g a n cap) := H.out.below (low_alloc _ _)
  have HG : Hid (w.grownBy (w.alloc (.cells #[.string ⟨#[97, 114, 116]⟩, .string ⟨#[98, 105, 111]⟩, .string ⟨#[99, 104, 101, 109]⟩, .string ⟨#[100, 97, 116, 97]⟩, .string ⟨#[122, 111, 111]⟩, .string ⟨#[]⟩] 9)) (some g)) := World.grownBy_alloc w _ _
  generalize w.alloc (.cells #[.string ⟨#[97, 114, 116]⟩, .string ⟨#[98, 105, 111]⟩, .string ⟨#[99, 104, 101, 109]⟩, .string ⟨#[100, 97, 116, 97]⟩, .string ⟨#[122, 111, 111]⟩, .string ⟨#[]⟩] 9) = w1 at HS HC HG ⊢
  refine (l01Below_c g a n cap 6 (by decide) (by decide) _ HC.out).mono ?_
  rintro e w2 ⟨y, rfl, hy0, hy1, hg, hc⟩
  obtain ⟨k, rfl⟩ : ∃ k : Nat, y = k := ⟨y.toNat, by omega⟩
  have HS2 : Hid (Row w2 w.heap.size [.string ⟨#[97, 114, 116]⟩, .string ⟨#[98, 105, 111]⟩, .string ⟨#[99, 104, 101, 109]⟩, .string ⟨#[100, 97, 116, 97]⟩, .string ⟨#[122, 111, 111]⟩, .string ⟨#[]⟩]) := HS.out.far hg (fun e => by have := Option.some.inj e; omega)
  have HG2 : Hid (w.grownBy w2 (some g)) := HG.out.trans hg
  have HC2 : Hid (Cur w2 g a n cap) := hc
  obtain ⟨s, hws, hsz⟩ := word_at names_small (n := 6) (k := k) rfl (by omega)
  have c0 := HS2.out.cell k _ hws
  clear hg hc hws HS HC HG
  go_wp2_with fail
  go_ret
  exact ⟨s, rfl, hsz, HC2.out, HG2.out⟩
end Go.Proofs.Ytpjfampfhofeaaa

namespace Go.Proofs.Ytpjfampfhofeaaa
open Go.ChangeShapes Go.WideShapes Go.ChangeAt Go.RowKit

set_option maxHeartbeats 4000000 in
set_option maxRecDepth 100000 in
theorem l11Any_c (g : Nat) (a : Option Addr) (n cap : Nat) (w : World) (h : Cur w g a n cap) :
    Calls Try.prog 38 #[.pointer (some ⟨g, 0, none⟩)] w fun e w' => ∃ (b c : Nat) (l : List Ac), e = .returned (.slice (some ⟨b, 0, none⟩) l.length c) ∧ l.length ≤ 5 ∧ Da w w' g a n cap b c l := by
  have H : Hid (Cur w g a n cap) := h
  have hgl := h.lt
  clear h
  obtain ⟨i0, hi2, hz0, hz1, hz2⟩ := info_parts infoAcc
  go_enter Try.func38, Try.ntmps38
  go_wp2_with fail
  refine (l11Draw_c g a n cap _ H.out).mono ?_
  rintro e w1 ⟨b, c, l, rfl, hl, hd⟩
  have HD1 : Hid (Da w w1 g a n cap b c l) := hd
  clear hd
  go_wp2_with fail
  refine (l01Below_c g a n cap 14 (by decide) (by decide) _ HD1.out.cur).mono ?_
  rintro e w2 ⟨k, rfl, hk0, hk1, hg, hc⟩
  have HD2 : Hid (Da w w2 g a n cap b c l) := HD1.out.drawn hgl hg hc
  clear hg hc HD1
  by_cases h0 : l.length = 0
  · have hi : ((l.length : Int) == 0) = true := by simp [h0]
    have hl5 : l.length ≤ 5 := by omega
    clear h0
    go_wp2_with fail
    go_ret
    exact ⟨b, c, l, rfl, hl5, HD2.out⟩
  · have hi : ((l.length : Int) == 0) = false := by rw [beq_eq_false_iff_ne]; omega
    have HL : Hid (l.length ≠ 0) := h0
    clear h0
    go_wp2_with fail
    refine (l01Below_c g a n cap (l.length : Int) (by have := HL.out; omega) (by omega) _ HD2.out.cur).mono ?_
    rintro e w3 ⟨y, rfl, hy0, hy1, hg, hc⟩
    obtain ⟨i, rfl⟩ : ∃ i : Nat, y = i := ⟨y.toNat, by omega⟩
    have HD3 : Hid (Da w w3 g a n cap b c l) := HD2.out.drawn hgl hg hc
    have hil : i < l.length := by omega
    clear hg hc HD2 hi
    have HX : Hid ((flatAc l).length = 3 * l.length) := flatAc_len l
    by_cases h5 : 4 ≤ k
    · have e0 : (k == 0) = false := by rw [beq_eq_false_iff_ne]; omega
      have e1 : (k == 1) = false := by rw [beq_eq_false_iff_ne]; omega
      have e2 : (k == 2) = false := by rw [beq_eq_false_iff_ne]; omega
      have e3 : (k == 3) = false := by rw [beq_eq_false_iff_ne]; omega
      clear h5
      go_wp2_with fail
      go_ret
      exact ⟨b, c, l, rfl, by omega, HD3.out⟩
    · obtain rfl | rfl | rfl | rfl : k = 0 ∨ k = 1 ∨ k = 2 ∨ k = 3 := by omega
      · clear h5 hk0 hk1
        go_wp2_with fail
        refine (l01Raw_c g a n cap _ HD3.out.cur).mono ?_
        rintro e w4 ⟨x, rfl, hg, hc⟩
        have HD4 : Hid (Da w w4 g a n cap b c l) := HD3.out.drawn hgl hg hc
        clear hg hc HD3
        have d := (owsRow HD4.out.own).1.cell (i * 3 + 1) _ (List.getElem?_eq_getElem (by rw [HX.out]; omega))
        have f := (owsRow HD4.out.own).1.free (i * 3 + 1)
        have HD5 : Hid (Da w (w4.setCell ⟨b, i * 3 + 1, none⟩ (.int .i64 x)) g a n cap b c (l.set i { l[i] with sh := x })) := Da.put H.out HD4.out { l[i] with sh := x } hil (by decide) rfl (HD4.out.sm l[i] (List.getElem_mem hil))
        go_wp2_with fail
        go_ret
        exact ⟨b, c, _, by rw [List.length_set]; rfl, by rw [List.length_set]; omega, HD5.out⟩
      · clear h5 hk0 hk1
        go_wp2_with fail
        refine (l01Raw_c g a n cap _ HD3.out.cur).mono ?_
        rintro e w4 ⟨x, rfl, hg, hc⟩
        have HD4 : Hid (Da w w4 g a n cap b c l) := HD3.out.drawn hgl hg hc
        clear hg hc HD3
        have d := (owsRow HD4.out.own).1.cell (i * 3 + 2) _ (List.getElem?_eq_getElem (by rw [HX.out]; omega))
        have f := (owsRow HD4.out.own).1.free (i * 3 + 2)
        have HD5 : Hid (Da w (w4.setCell ⟨b, i * 3 + 2, none⟩ (.int .i64 x)) g a n cap b c (l.set i { l[i] with us := x })) := Da.put H.out HD4.out { l[i] with us := x } hil (by decide) rfl (HD4.out.sm l[i] (List.getElem_mem hil))
        go_wp2_with fail
        go_ret
        exact ⟨b, c, _, by rw [List.length_set]; rfl, by rw [List.length_set]; omega, HD5.out⟩
      · clear h5 hk0 hk1
        have HS4 : Hid (Row (w3.alloc (.cells #[.string ⟨#[]⟩, .string ⟨#[65, 114, 116]⟩, .string ⟨#[97, 98, 99, 100, 101, 102, 103, 104, 105]⟩, .string ⟨#[122, 122]⟩] 9)) w3.heap.size [.string ⟨#[]⟩, .string ⟨#[65, 114, 116]⟩, .string ⟨#[97, 98, 99, 100, 101, 102, 103, 104, 105]⟩, .string ⟨#[122, 122]⟩]) := row_fresh w3 [.string ⟨#[]⟩, .string ⟨#[65, 114, 116]⟩, .string ⟨#[97, 98, 99, 100, 101, 102, 103, 104, 105]⟩, .string ⟨#[122, 122]⟩] 9
        have HD4 : Hid (Da w (w3.alloc (.cells #[.string ⟨#[]⟩, .string ⟨#[65, 114, 116]⟩, .string ⟨#[97, 98, 99, 100, 101, 102, 103, 104, 105]⟩, .string ⟨#[122, 122]⟩] 9)) g a n cap b c l) := HD3.out.below (low_alloc _ _)
        have hgs : g ≠ w3.heap.size := by have := HD3.out.cur.lt; omega
        go_wp2_with fail
        generalize w3.alloc (.cells #[.string ⟨#[]⟩, .string ⟨#[65, 114, 116]⟩, .string ⟨#[97, 98, 99, 100, 101, 102, 103, 104, 105]⟩, .string ⟨#[122, 122]⟩] 9) = w4 at HS4 HD4
        generalize w3.heap.size = q at HS4 hgs ⊢
        clear HD3
        refine (l01Below_c g a n cap 4 (by decide) (by decide) _ HD4.out.cur).mono ?_
        rintro e w5 ⟨y, rfl, hz0', hz1', hg, hc⟩
        obtain ⟨m, rfl⟩ : ∃ m : Nat, y = m := ⟨y.toNat, by omega⟩
        have HS5 : Hid (Row w5 q [.string ⟨#[]⟩, .string ⟨#[65, 114, 116]⟩, .string ⟨#[97, 98, 99, 100, 101, 102, 103, 104, 105]⟩, .string ⟨#[122, 122]⟩]) := HS4.out.far hg (fun e => hgs (Option.some.inj e).symm)
        have HD5 : Hid (Da w w5 g a n cap b c l) := HD4.out.drawn hgl hg hc
        obtain ⟨s, hws, hsz⟩ := word_at bads_small (n := 4) (k := m) rfl (by omega)
        have c0 := HS5.out.cell m _ hws
        have d := (owsRow HD5.out.own).1.cell (i * 3) _ (List.getElem?_eq_getElem (by rw [HX.out]; omega))
        have f := (owsRow HD5.out.own).1.free (i * 3)
        have HD6 : Hid (Da w (w5.setCell ⟨b, i * 3, none⟩ (.string s)) g a n cap b c (l.set i { l[i] with nm := s })) := Da.put (q := 0) H.out HD5.out { l[i] with nm := s } hil (by decide) rfl hsz
        clear hg hc hws HS4 HD4
        go_wp2_with fail
        go_ret
        exact ⟨b, c, _, by rw [List.length_set]; rfl, by rw [List.length_set]; omega, HD6.out⟩
      · clear h5 hk0 hk1
        have h0l : 0 < l.length := by omega
        have HX0 : Hid (l[0]? = some l[0]) := List.getElem?_eq_getElem h0l
        have HSm : Hid (l[0].nm.size ≤ 16) := HD3.out.sm _ (List.getElem_mem h0l)
        generalize l[0] = x at HX0 HSm
        have hr := (owsRow HD3.out.own).1
        have g0 := hr.cell (0 * 3 + 0) _ ((flatAc_get l 0 0 h0l (by decide)).trans (by rw [show l[0] = x from Option.some.inj ((List.getElem?_eq_getElem h0l).symm.trans HX0.out)]; rfl))
        have g1 := hr.cell (0 * 3 + 1) _ ((flatAc_get l 0 1 h0l (by decide)).trans (by rw [show l[0] = x from Option.some.inj ((List.getElem?_eq_getElem h0l).symm.trans HX0.out)]; rfl))
        have g2 := hr.cell (0 * 3 + 2) _ ((flatAc_get l 0 2 h0l (by decide)).trans (by rw [show l[0] = x from Option.some.inj ((List.getElem?_eq_getElem h0l).symm.trans HX0.out)]; rfl))
        simp only [Nat.zero_mul, Nat.zero_add] at g0 g1 g2
        have HDa : Hid (Da w (w3.alloc (.cells #[.string x.nm, .int .i64 x.sh, .int .i64 x.us] 30)) g a n cap b c l) := HD3.out.below (low_alloc _ _)
        have hsa := HDa.out.gr.size
        have hi0 : (0 : Int) < (l.length : Int) := by omega
        clear hr
        go_wp2_with (at_builtin; refine wpList_append_own_at _ rfl _ _ 23 rfl w.heap.size 30 i0 (.agg #[.string ⟨#[]⟩, .int .i64 0, .int .i64 0]) 3 32 Try.underlying23 hi2 hz0 hz1 hz2 rfl (by decide) (.slice (some ⟨b, 0, none⟩) l.length c) l.length (flatAc l) rfl HDa.out.own ⟨w3.heap.size, 0, none⟩ 1 1 [.string x.nm, .int .i64 x.sh, .int .i64 x.us] rfl rfl ?c1 ?c2 ?c3 ?c4 ?c5 ?_)
        case c1 =>
          intro j v hv
          rw [add_plain, Nat.zero_add]
          exact (row_fresh w3 [.string x.nm, .int .i64 x.sh, .int .i64 x.us] 30).cell j v hv
        case c2 => simp [Value.oneCell']
        case c3 => unfold maxLen; omega
        case c4 => omega
        case c5 => exact hsa
        · intro v' wb hown hgrow _ hat
          obtain ⟨b', c', rfl⟩ : ∃ b' c', v' = .slice (some ⟨b', 0, none⟩) (l.length + 1) c' := by
            rcases hown.2 with ⟨_, hz⟩ | ⟨g', cap, _, e, _⟩
            · omega
            · exact ⟨g', cap, e⟩
          have HDb : Hid (Da w wb g a n cap b' c' (l ++ [x])) := Da.more H.out HDa.out x HSm.out hown hgrow
          clear hown hgrow hat HDa hsa g0 g1 g2 HD3
          go_wp2_with fail
          go_ret
          exact ⟨b', c', l ++ [x], by rw [List.length_append]; rfl, by rw [List.length_append]; simp; omega, HDb.out⟩
set_option maxHeartbeats 1000000 in
theorem drawRanks_c (a : Option Addr) (n cap : Nat) (w : World) (h : CodeIs w a n) :
    Calls Try.prog 12 #[.slice a n cap] w fun e w' => ∃ (b c : Nat) (l : List Ac), e = .returned (.slice (some ⟨b, 0, none⟩) l.length c) ∧ l.length ≤ 5 ∧ (∀ x ∈ l, x.nm.size ≤ 16) ∧ Row w' b (flatAc l) ∧ Below w.heap.size w w' := by
  have H : Hid (CodeIs w a n) := h
  clear h
  go_enter Try.func12, Try.ntmps12
  go_wp2_with fail
  refine (l01New_c a n cap _ H.out).mono ?_
  rintro e w1 ⟨g, rfl, hg1, hb1, hc1⟩
  have HB1 : Hid (Below w.heap.size w w1) := hb1
  have HC1 : Hid (Cur w1 g a n cap) := hc1
  have hwg : w.heap.size ≤ g := hg1
  clear hb1 hc1 hg1
  go_wp2_with fail
  refine (l11Any_c g a n cap _ HC1.out).mono ?_
  rintro e w2 ⟨b, c, l, rfl, hl, hd⟩
  have HR2 : Hid (Row w2 b (flatAc l)) := (owsRow hd.own).1
  have HB2 : Hid (Below w.heap.size w w2) := below_grown HB1.out hd.gr hwg
  have HSm : Hid (∀ x ∈ l, x.nm.size ≤ 16) := hd.sm
  clear hd
  go_wp2_with fail
  go_ret
  exact ⟨b, c, l, rfl, hl, HSm.out, HR2.out, HB2.out⟩
set_option maxHeartbeats 1000000 in
theorem drawCharge_c (a : Option Addr) (n cap : Nat) (w : World) (h : CodeIs w a n) :
    Calls Try.prog 17 #[.slice a n cap] w fun e w' => ∃ (b c : Nat) (l : List Ac) (s : ByteArray) (m : Int), e = .returned (.tuple #[.slice (some ⟨b, 0, none⟩) l.length c, .string s, .int .i64 m]) ∧ l.length ≤ 5 ∧ (∀ x ∈ l, x.nm.size ≤ 16) ∧ s.size ≤ 16 ∧ Row w' b (flatAc l) ∧ Below w.heap.size w w' := by
  have H : Hid (CodeIs w a n) := h
  clear h
  go_enter Try.func17, Try.ntmps17
  go_wp2_with fail
  refine (l01New_c a n cap _ H.out).mono ?_
  rintro e w1 ⟨g, rfl, hg1, hb1, hc1⟩
  have HB1 : Hid (Below w.heap.size w w1) := hb1
  have HC1 : Hid (Cur w1 g a n cap) := hc1
  have hwg : w.heap.size ≤ g := hg1
  have hgl := hc1.lt
  clear hb1 hc1 hg1
  go_wp2_with fail
  refine (l11Any_c g a n cap _ HC1.out).mono ?_
  rintro e w2 ⟨b, c, l, rfl, hl, hd⟩
  have HD2 : Hid (Da w1 w2 g a n cap b c l) := hd
  clear hd
  go_wp2_with fail
  refine (l01Below_c g a n cap 50 (by decide) (by decide) _ HD2.out.cur).mono ?_
  rintro e w3 ⟨m, rfl, hm0, hm1, hg, hc⟩
  have HD3 : Hid (Da w1 w3 g a n cap b c l) := HD2.out.drawn hgl hg hc
  clear hg hc HD2
  go_wp2_with fail
  refine (l01Below_c g a n cap 8 (by decide) (by decide) _ HD3.out.cur).mono ?_
  rintro e w4 ⟨k, rfl, hk0, hk1, hg, hc⟩
  have HD4 : Hid (Da w1 w4 g a n cap b c l) := HD3.out.drawn hgl hg hc
  clear hg hc HD3
  by_cases h0 : k = 0
  · have hi : (k == 0) = true := by simp [h0]
    clear h0
    go_wp2_with fail
    refine (l01Raw_c g a n cap _ HD4.out.cur).mono ?_
    rintro e w5 ⟨x, rfl, hg, hc⟩
    have HD5 : Hid (Da w1 w5 g a n cap b c l) := HD4.out.drawn hgl hg hc
    clear hg hc HD4
    go_wp2_with fail
    refine (l11Name_c g a n cap _ HD5.out.cur).mono ?_
    rintro e w6 ⟨s, rfl, hs, hc, hg⟩
    have HD6 : Hid (Da w1 w6 g a n cap b c l) := HD5.out.drawn hgl hg hc
    have HB6 : Hid (Below w.heap.size w w6) := below_grown HB1.out HD6.out.gr hwg
    clear hg hc HD5
    go_wp2_with fail
    go_returns
    exact ⟨b, c, l, s, x, rfl, hl, HD6.out.sm, hs, (owsRow HD6.out.own).1, HB6.out⟩
  · have hi : (k == 0) = false := by simp [h0]
    clear h0
    go_wp2_with fail
    refine (l11Name_c g a n cap _ HD4.out.cur).mono ?_
    rintro e w6 ⟨s, rfl, hs, hc, hg⟩
    have HD6 : Hid (Da w1 w6 g a n cap b c l) := HD4.out.drawn hgl hg hc
    have HB6 : Hid (Below w.heap.size w w6) := below_grown HB1.out HD6.out.gr hwg
    clear hg hc HD4
    go_wp2_with fail
    go_returns
    exact ⟨b, c, l, s, m, rfl, hl, HD6.out.sm, hs, (owsRow HD6.out.own).1, HB6.out⟩
end Go.Proofs.Ytpjfampfhofeaaa

namespace Go.Proofs.Ytpjfampfhofeaaa
open Go.ChangeShapes Go.WideShapes Go.ChangeAt Go.RowKit

/-- What the fields of two structs show, one by one. -/
def Fits (P : Program) (d : Nat) (xs ys : Array Value) : List (String × TypeId × Nat) → List Bool → Prop
  | [], [] => True
  | x :: L, r :: rs => (x.1 ≠ "_" ∧ ∃ a b, (∀ w, (part x.2.1 xs x.2.2).run P w = .ok a w) ∧ (∀ w, (part x.2.1 ys x.2.2).run P w = .ok b w) ∧ ∀ w, (Op.equalIn d x.2.1 a b).run P w = .ok r w) ∧ Fits P d xs ys L rs
  | _, _ => False

theorem eqf_fits {P : Program} {d : Nat} {xs ys : Array Value} : ∀ (L : List (String × TypeId × Nat)) (fs : List Field) (rs : List Bool), fs.map (fun f => (f.name, f.type, f.offset)) = L → Fits P d xs ys L rs →
    ∀ w, (Op.eqFields d xs ys fs).run P w = .ok (rs.all id) w
  | [], [], [], _, _, w => by simp [Op.eqFields]
  | x :: L, [], _, h, _, _ => by simp at h
  | [], f :: fs, _, h, _, _ => by simp at h
  | x :: L, f :: fs, [], _, h, _ => by simp [Fits] at h
  | [], [], r :: rs, _, h, _ => by simp [Fits] at h
  | x :: L, f :: fs, r :: rs, h, hf, w => by
    simp only [List.map_cons, List.cons.injEq] at h
    obtain ⟨rfl, h2⟩ := h
    obtain ⟨⟨hn, a, b, h1, h3, h4⟩, hr⟩ := hf
    have hi := eqf_fits L fs rs h2 hr w
    simp only at hn h1 h3 h4
    simp only [Op.eqFields, hn, ne_eq, not_false_eq_true, if_true, Sem.run_bind, h1, h3, h4, Result.andThen_ok]
    cases r <;> simp [hi]

/-- Two vectors, held against each other. -/
def veB (a b c x y z : Int) : Bool := [a == x, b == y, c == z].all id
/-- Two jobs. -/
def jeB (j k : Jb) : Bool := [j.id == k.id, j.pr == k.pr, j.nd == k.nd, veB j.na j.nb j.nc k.na k.nb k.nc, veB j.la j.lb j.lc k.la k.lb k.lc, j.wl == k.wl, j.lv == k.lv].all id
/-- Two commands. -/
def ceB (s : Int) (j : Jb) (n a b c t : Int) (k : Jb) (m x y z : Int) : Bool := [s == t, jeB j k, n == m, veB a b c x y z].all id

end Go.Proofs.Ytpjfampfhofeaaa

namespace Go.Proofs.Ytpjfampfhofeaaa
open Go.ChangeShapes Go.WideShapes Go.ChangeAt Go.RowKit

/-- Two accounts, held against each other. -/
def eqAc (x y : Ac) : Bool := [x.nm.toList == y.nm.toList, x.sh == y.sh, x.us == y.us].all id
theorem eqAc_self (x : Ac) : eqAc x x = true := by simp [eqAc]
theorem accFields : (Try.prog.fieldsOf 30).toList.map (fun f => (f.name, f.type, f.offset)) = [("Name", 9, 0), ("Share", 3, 1), ("Used", 3, 2)] := by kernel_rfl
set_option maxRecDepth 100000 in
theorem eq_acc (d : Nat) (x y : Ac) (w : World) : (Op.equalIn (d + 2) 30 (.agg #[.string x.nm, .int .i64 x.sh, .int .i64 x.us]) (.agg #[.string y.nm, .int .i64 y.sh, .int .i64 y.us])).run Try.prog w = .ok (eqAc x y) w := by
  rw [run_equalIn_struct w (d + 1) 30 _ _ (by rfl) (by kernel_rfl)]
  refine eqf_fits _ _ [x.nm.toList == y.nm.toList, x.sh == y.sh, x.us == y.us] accFields ?_ w
  refine ⟨⟨by decide, .string x.nm, .string y.nm, fun w => by simp [go_sem], fun w => by simp [go_sem], fun w => run_equalIn_string w d 9 _ _ Try.underlying9⟩, ?_⟩
  refine ⟨⟨by decide, .int .i64 x.sh, .int .i64 y.sh, fun w => by simp [go_sem], fun w => by simp [go_sem], fun w => run_equalIn_int w d 3 _ _ _ _ Try.underlying3⟩, ?_⟩
  exact ⟨⟨by decide, .int .i64 x.us, .int .i64 y.us, fun w => by simp [go_sem], fun w => by simp [go_sem], fun w => run_equalIn_int w d 3 _ _ _ _ Try.underlying3⟩, trivial⟩
set_option maxHeartbeats 4000000 in
set_option maxRecDepth 100000 in
/-- The loop: an account is as it was, but for the use of the one that is charged; fading halves. -/
theorem fnCharge_walk (a : Option Addr) (n cap : Nat) (w : World) (h : n ≤ 1048576 → CodeIs w a n) :
    Calls Try.prog 4 #[.slice a n cap] w fun e w' => e = .returned (.bool true) ∧ Below w.heap.size w w' := by
  have H : Hid (n ≤ 1048576 → CodeIs w a n) := h
  clear h
  by_cases hn : n ≤ 1048576
  · have hi : ¬ (1048576 : Int) < (n : Int) := by omega
    have HC : Hid (CodeIs w a n) := H.out hn
    clear H
    go_enter Try.func4, Try.ntmps4
    go_wp2_with fail
    refine (drawCharge_c a n cap _ HC.out).mono ?_
    rintro e w1 ⟨b, c, l, s, m, rfl, hl, hsm, hs, hr, hb⟩
    have HR1 : Hid (Row w1 b (flatAc l)) := hr
    have HB1 : Hid (Below w.heap.size w w1) := hb
    have HZ : Hid (∀ x ∈ l, x.nm.size ≤ 1048576) := fun x hx => Nat.le_trans (hsm x hx) (by decide)
    clear hr hb hi hn HC hsm
    go_wp2_with fail
    refine (implCharge_c _ _ l (by omega) HZ.out s m _ (Sq.of_row HR1.out)).mono ?_
    rintro e w2 ⟨k, v, rfl, hk, hans, hb⟩
    have HR2 : Hid (Row w2 b (flatAc l)) := HR1.out.below hb
    have HB2 : Hid (Below w.heap.size w w2) := below_then HB1.out hb
    have HK : Hid (k = true ↔ chP l s m) := hk
    have HA2 : Hid (AnsAc w1.heap.size w2.heap.size w2 (bif k then chR l s m else []).length (flatAc (bif k then chR l s m else [])) v) := hans
    clear hk hans hb HR1 HB1
    go_wp2_with fail
    refine (specCharge_c _ _ l (by omega) HZ.out s m _ (Sq.of_row HR2.out)).mono ?_
    rintro e w3 ⟨k2, v2, rfl, hk, hans, hb⟩
    obtain rfl : k = k2 := by
      cases k
      · cases k2
        · rfl
        · have := HK.out.2 (hk.1 rfl); cases this
      · exact (hk.2 (HK.out.1 rfl)).symm
    have HR3 : Hid (Row w3 b (flatAc l)) := HR2.out.below hb
    have HB3 : Hid (Below w.heap.size w w3) := below_then HB2.out hb
    have HA3 : Hid (AnsAc w1.heap.size w2.heap.size w3 (bif k then chR l s m else []).length (flatAc (bif k then chR l s m else [])) v) := HA2.out.below hb
    clear hk hans hb HR2 HB2 HA2
    cases k
    · obtain ⟨a1, c1, rfl⟩ : ∃ a1 c1, v = .slice a1 0 c1 := by
        obtain ⟨_, a1, c1, e, _⟩ := HA3.out
        exact ⟨a1, c1, e⟩
      clear HA3 HK
      go_wp2_with fail
      go_ret
      exact ⟨rfl, HB3.out⟩
    · have HP : Hid (chP l s m) := HK.out.1 rfl
      have HAr := HA3.out
      simp only [cond_true] at HAr
      obtain ⟨a1, c1, rfl, hs1⟩ := HAr.form
      obtain ⟨M, hM⟩ : ∃ M, chR l s m = M := ⟨_, rfl⟩
      have HM : Hid (chR l s m = M) := hM
      have HMl0 : Hid (M.length = l.length) := by show _ = _; rw [← hM]; exact lenCharge l s m
      rw [hM] at hs1
      have HS3 : Hid (Sq w3 a1 (flatAc M)) := hs1
      have HMo : Hid (AOk M) := by show _; rw [← hM]; exact (ch_ok HP.out).2
      have HZM : Hid (∀ x ∈ M, x.nm.size ≤ 1048576) := fun x hx => by
        obtain ⟨i, hi, e⟩ := List.getElem_of_mem hx
        have hi2 : i < l.length := by rw [← HMl0.out]; exact hi
        obtain ⟨u, f, h1, _⟩ := ch_at HP.out hi2
        rw [hM, List.getElem?_eq_getElem hi, e] at h1
        have hx2 : x.nm = l[i].nm := by
          have h2 := Option.some.inj h1
          rw [h2]
        rw [hx2]
        exact HZ.out _ (List.getElem_mem hi2)
      have hcf := implFade_c a1 c1 M (by rw [HMl0.out]; omega) HZM.out w3 HS3.out
      rw [HMl0.out] at hcf
      have HCf : Hid (Calls Try.prog 20 #[.slice a1 l.length c1] w3 (RetF w3 (fdL M))) := hcf
      rw [hM, HMl0.out]
      clear hM HA3 HK HAr hs1 hcf
      go_wp2_with fail
      refine HCf.out.mono ?_
      rintro e w4 ⟨v3, rfl, hans, hb⟩
      obtain ⟨F, hF⟩ : ∃ F, fdL M = F := ⟨_, rfl⟩
      have HFl0 : Hid (F.length = l.length) := by show _ = _; rw [← hF, ← HM.out]; exact fd_len HP.out
      have HAt : Hid (∀ (i : Nat) (hi : i < l.length), ∃ u f : Int, M[i]? = some ⟨l[i].nm, l[i].sh, u⟩ ∧ F[i]? = some ⟨l[i].nm, l[i].sh, f⟩ ∧ f = u.tdiv 2 ∧ l[i].us ≤ u ∧ 0 ≤ u ∧ u ≤ 1000000000 ∧ ((l[i].nm.toList == s.toList) = false → u = l[i].us)) := fun i hi => by
        have := ch_at HP.out hi
        rwa [HM.out, hF] at this
      rw [hF] at hans
      obtain ⟨a3, c3, rfl, hs3⟩ := hans.form
      have HS4 : Hid (Sq w4 a3 (flatAc F)) := hs3
      have HM4 : Hid (Sq w4 a1 (flatAc M)) := HS3.out.below hb
      have HR4 : Hid (Row w4 b (flatAc l)) := HR3.out.below hb
      have HB4 : Hid (Below w.heap.size w w4) := below_then HB3.out hb
      obtain ⟨N, hN⟩ : ∃ N, l.length = N := ⟨_, rfl⟩
      have HN : Hid (l.length = N) := hN
      have HMl : Hid (M.length = N) := HMl0.out.trans hN
      have HFl : Hid (F.length = N) := HFl0.out.trans hN
      rw [HFl0.out]
      rw [hN] at hl ⊢
      clear hans hb hs3 hF HR3 HS3 HB3 HMl0 HFl0 hN
      go_wp2_with fail
      go_loopw [47] (fun i wr => ∃ j : Nat, j ≤ N ∧ i = .int .i64 j ∧ Below w4.heap.size w4 wr) (fun i _ => N - (intOf i).toNat)
      case atStart => exact ⟨0, Nat.zero_le _, rfl, Below.refl _ _⟩
      case round =>
        obtain ⟨j, hj, rfl, hb⟩ := hrel
        have HB : Hid (Below w4.heap.size w4 wr) := hb
        clear hb
        by_cases hlt : j < N
        · have hj0 : (0 : Int) ≤ (j : Int) := by omega
          have hj1 : (j : Int) < (N : Int) := by omega
          have hjl : j < l.length := by rw [HN.out]; exact hlt
          obtain ⟨u, f, hm, hf, hfu, hu, hu0, hu1, hne⟩ := HAt.out j hjl
          have HX : Hid (∀ r v, (l[j].cells)[r]? = some v → r < 3 → (flatAc l)[j * 3 + r]? = some v) := fun r v hv hr => by rw [flatAc_get l j r hjl hr]; exact hv
          have HMx : Hid (M[j]? = some ⟨l[j].nm, l[j].sh, u⟩) := hm
          have HFx : Hid (F[j]? = some ⟨l[j].nm, l[j].sh, f⟩) := hf
          have HNe : Hid ((l[j].nm.toList == s.toList) = false → u = l[j].us) := hne
          obtain ⟨p1, rfl⟩ := HM4.out.some_ofAc j (by rw [HMl.out]; exact hlt)
          obtain ⟨p3, rfl⟩ := HS4.out.some_ofAc j (by rw [HFl.out]; exact hlt)
          generalize l[j] = x at HX HMx HFx HNe hu
          have hf0 : 0 ≤ f := by rw [hfu]; exact Int.tdiv_nonneg hu0 (by decide)
          have hf1 : f ≤ 1000000000 := by rw [hfu, Int.tdiv_eq_ediv_of_nonneg hu0]; omega
          have hw : IntKind.i64.wrap f = f := by rw [IntKind.wrap_i64]; omega
          have hd : u.tdiv 2 = f := hfu.symm
          have hlt2 : decide (u < x.us) = false := decide_eq_false (by omega)
          have hsome := beh_some wr
          have x0 := Beh.row (HR4.out.below HB.out) (j * 3) _ (HX.out 0 _ rfl (by decide))
          have x1 := Beh.row (HR4.out.below HB.out) (j * 3 + 1) _ (HX.out 1 _ rfl (by decide))
          have x2 := Beh.row (HR4.out.below HB.out) (j * 3 + 2) _ (HX.out 2 _ rfl (by decide))
          have m0 := Beh.account0 (HM4.out.below HB.out) HMx.out
          have m1 := Beh.accountK (HM4.out.below HB.out) HMx.out 1 (by decide) _ rfl
          have m2 := Beh.accountK (HM4.out.below HB.out) HMx.out 2 (by decide) _ rfl
          have f2 := Beh.accountK (HS4.out.below HB.out) HFx.out 2 (by decide) _ rfl
          clear hjl hm hf hfu hne hu hu0 hu1 hf0 hf1 HX
          cases hnm : (x.nm.toList == s.toList)
          · obtain rfl : u = x.us := HNe.out hnm
            have hq : ∀ W : World, (Op.equalIn 10000 30 (.agg #[.string x.nm, .int .i64 x.sh, .int .i64 x.us]) (.agg #[.string x.nm, .int .i64 x.sh, .int .i64 x.us])).run Try.prog W = .ok true W := fun W => by
              rw [← eqAc_self x]
              exact eq_acc 9998 x x W
            clear HNe hlt2
            go_wp2_with fail
            refine wp_region_beh (by kernel_rfl) (by kernel_rfl) ?_
            repeat (go_big_quiet_step (fail))
            refine wpQuiet_nil ?_
            rintro ⟨w6, hb6⟩
            have HB6 : Hid (Below w4.heap.size w4 w6) := below_then HB.out hb6
            clear x0 x1 x2 m0 m1 m2 f2 hsome hq hw hd hnm
            go_wp2_with fail
            go_roundw
            case rel => exact ⟨j + 1, by omega, by go_num, HB6.out⟩
            case measure => simp [intOf]; omega
          · clear HNe
            go_wp2_with fail
            refine wp_region_beh (by kernel_rfl) (by kernel_rfl) ?_
            repeat (go_big_quiet_step (fail))
            refine wpQuiet_nil ?_
            rintro ⟨w6, hb6⟩
            have HB6 : Hid (Below w4.heap.size w4 w6) := below_then HB.out hb6
            clear x0 x1 x2 m0 m1 m2 f2 hsome hw hd hnm hlt2
            go_wp2_with fail
            go_roundw
            case rel => exact ⟨j + 1, by omega, by go_num, HB6.out⟩
            case measure => simp [intOf]; omega
        · have hc := implAccountsOk_c a1 c1 M (by rw [HMl.out]; omega) HZM.out wr (HM4.out.below HB.out)
          rw [HMl.out] at hc
          have HCo : Hid (Calls Try.prog 21 #[.slice a1 N c1] wr (Says wr (AOk M))) := hc
          clear hc
          go_wp2_with fail
          refine HCo.out.mono ?_
          rintro e w5 ⟨k5, rfl, hk5, hb⟩
          obtain rfl : true = k5 := (hk5.2 HMo.out).symm
          have HB5 : Hid (Below w.heap.size w w5) := below_then (below_then HB4.out HB.out) hb
          clear hb hk5
          go_wp2_with fail
          go_ret
          exact ⟨rfl, HB5.out⟩
  · have hi : (1048576 : Int) < (n : Int) := by omega
    clear H hn
    go_enter Try.func4, Try.ntmps4
    go_wp2_with fail
    go_ret
    exact ⟨rfl, Below.refl _ _⟩
end Go.Proofs.Ytpjfampfhofeaaa

namespace Go.Proofs.Ytpjfampfhofeaaa
open Go.ChangeShapes Go.WideShapes Go.ChangeAt Go.RowKit

theorem laidOutAll : laidOutB Try.prog = true := by kernel_rfl
theorem cellsByte : Try.prog.cellsOf 5 = 1 := by kernel_rfl

theorem byte_in {x : Int} (h : (Lit.int .u8 x).wf = true) : 0 ≤ x ∧ x < 256 := by
  have h1 : IntKind.u8.min = 0 := rfl
  have h2 : IntKind.u8.max = 255 := rfl
  simp only [Lit.wf, Bool.and_eq_true, decide_eq_true_eq] at h
  omega

/-- A code that came in: its length, and its bytes where it is no longer than the laws look at. -/
theorem code_opened {H : Type} {enc : TypeId × Value → H} {W : World} {a : Option Addr} {n cap : Nat} {d : DataW H} {p : List MemPlace}
    (h : DataW.Trod enc Try.prog W 0 (fun _ => true) true 22 (.slice a n cap) d p) : n ≤ maxLen ∧ (n ≤ 1048576 → CodeIs W a n) := by
  obtain ⟨fuel, hf⟩ := h
  rcases open_ints Try.underlying22 Try.underlying5 cellsByte hf with ⟨hcs, _⟩ | ⟨b, len, c, zs, hcs, _, hl, hm, hz, _, hcell, hwz⟩
  · simp [Value.cells] at hcs
    obtain ⟨rfl, rfl, rfl⟩ := hcs
    exact ⟨Nat.zero_le _, fun _ => ⟨by omega, fun i hi => by omega⟩⟩
  · simp [Value.cells] at hcs
    obtain ⟨rfl, rfl, rfl⟩ := hcs
    simp only [if_true] at hz
    refine ⟨by omega, fun hn => ⟨hn, fun i hi => ?_⟩⟩
    have hi' : i < zs.length := by omega
    have hc := hcell i hi'
    have hg : zs.getD i 0 = zs[i] := by simp [List.getD, hi']
    have hw := byte_in (hwz zs[i] (List.getElem_mem hi'))
    refine ⟨b, zs[i], rfl, ?_, by rw [hc, hg], hw.1, hw.2⟩
    have := World.block_lt_of_cell? _ _ hc
    rwa [block_add] at this
end Go.Proofs.Ytpjfampfhofeaaa

namespace Go.Proofs.Ytpjfampfhofeaaa
namespace LawFnCharge
open Go.ChangeShapes Go.WideShapes Go.ChangeAt Go.RowKit Go.Joins

theorem own : ownKnob Try.prog.godebug = none := by kernel_rfl

set_option maxRecDepth 100000 in
theorem lifted (os : Os) (started : os.Started) (H : Type) (enc : TypeId × Value → H) :
    ReturnsInHanded {} Try.checked os 4 .any (Rows.fnChargeSpec.pre6 enc Try.prog Try.f4 Rows.fnChargeRow.domain false) (Rows.fnChargeSpec.post enc Try.prog Try.f4 false true false false) := by
  refine returnsInHanded_of_change (C := Try.checked) own started (by kernel_rfl) Try.func4
    (ChangeSpec.witness6 (enc := enc) (C := Try.checked) false ⟨#[], #[.slice none 0 0], []⟩ 8 (by kernel_rfl) (by kernel_rfl) (by kernel_rfl) (by kernel_rfl)) ?_
  intro W base args ds gs before hval0 hW _ _
  have hval : ∀ (j : Nat) t v, Try.f4.params[j]? = some t → args[j]? = some v → Value.okWide Try.prog W .any base t v := hval0
  have hW' := hW
  obtain ⟨p, q, hA0, hV, rfl, _, _⟩ := hW
  have hA : DataW.TrodAll enc Try.prog W 0 (fun _ => true) true Try.f4.params.toList args.toList ds p := hA0
  rw [Try.params4] at hA hval
  obtain ⟨v0, d0, rfl, rfl, h0⟩ := trodAll_one hA
  obtain ⟨rfl, rfl⟩ := trodVars_none hV
  obtain ⟨a, n, cap, rfl⟩ := okWide_slice Try.underlying22 (hval 0 22 v0 rfl rfl)
  clear hA0 hval0
  simp only [List.append_nil] at hW'
  obtain ⟨_, hc⟩ := code_opened h0
  refine (fnCharge_walk a n cap W hc).mono fun e W' ⟨he, hg⟩ => ?_
  subst he
  have hlt : ∀ x ∈ p, x.block < W.heap.size := fun x hx => by simpa using hW'.lt x hx
  have harg := Below.trod laidOutAll (by kernel_rfl) (of_decide_eq_true (by kernel_rfl)) h0 hg hlt
  exact ⟨_, rfl, _, _, _, [], _, [], hW', trodAll_mk1 (shut_bool Try.underlying4 _), trodAll_mk1 harg, rfl, hg.frame _, fun h => by cases h⟩
end LawFnCharge

/-- For every code: the law returns true, and the code reads as it did. -/
theorem fnCharge_holds : Rows.FnChargeSaid :=
  OpenClaim.holds_of_wide 4 Try.f4 rfl rfl rfl rfl rfl rfl rfl ⟨rfl, rfl, rfl, rfl, rfl⟩ rfl rfl rfl rfl rfl (by kernel_rfl) Try.func4 (by kernel_rfl)
    (of_decide_eq_true (by kernel_rfl)) (by unfold Func.isWrapper; rw [if_neg (of_decide_eq_false (by kernel_rfl))]; exact ⟨rfl, rfl⟩)
    (fun os started H enc _ => LawFnCharge.lifted os started H enc)
#print axioms fnCharge_holds
end Go.Proofs.Ytpjfampfhofeaaa
