/- FnRanks: for every code the law returns true: each account has a rank of its own, and the priority tells it; no condition. -/
import Derived.Test.YtpjfampfhofeaaaShC
import Derived.Test.YtpjfampfhofeaaaCurE
import Derived.Deep.DeepCutAuto
import Derived.Test.YtpjfampfhofeaaaCurC
import Derived.Test.YtpjfampfhofeaaaSjL
import Derived.Test.YtpjfampfhofeaaaShI
import Derived.Test.YtpjfampfhofeaaaCurA
import Derived.ProofKit
import Derived.Test.YtpjfampfhofeaaaRows
import Derived.Test.YtpjfampfhofeaaaChecked
import Derived.OpenShut
namespace Go.Proofs.Ytpjfampfhofeaaa
open Go.ChangeShapes Go.WideShapes Go.ChangeAt Go.RowKit

theorem flatAc_put {l : List Ac} {i q : Nat} {v : Value} (x : Ac) (h : i < l.length) (hq : q < 3) (hx : x.cells = (l[i].cells).set q v) : (flatAc l).set (i * 3 + q) v = flatAc (l.set i x) := by
  apply List.ext_getElem?
  intro m
  have hlen := flatAc_len l
  have hlen2 := flatAc_len (l.set i x)
  rw [List.length_set] at hlen2
  by_cases hm : m < 3 * l.length
  · have h2 := flatAc_get (l.set i x) (m / 3) (m % 3) (by rw [List.length_set]; omega) (by omega)
    have h1 := flatAc_get l (m / 3) (m % 3) (by omega) (by omega)
    rw [show m / 3 * 3 + m % 3 = m by omega] at h1 h2
    rw [h2]
    by_cases e : m / 3 = i
    · subst e
      rw [show (l.set (m / 3) x)[m / 3]'(by rw [List.length_set]; omega) = x by simp, hx]
      by_cases e2 : m % 3 = q
      · rw [show m / 3 * 3 + q = m by omega, List.getElem?_set_self (by omega), e2, List.getElem?_set_self (by rw [Ac.len]; omega)]
      · rw [List.getElem?_set_ne (by omega), h1, List.getElem?_set_ne (fun t => e2 t.symm)]
    · rw [List.getElem?_set_ne (by omega), h1]
      rw [show (l.set i x)[m / 3]'(by rw [List.length_set]; omega) = l[m / 3]'(by omega) by rw [List.getElem_set_ne (fun e' => e e'.symm)]]
  · rw [List.getElem?_eq_none (by rw [List.length_set]; omega), List.getElem?_eq_none (by omega)]
theorem grownOwn {w W W' : World} {g : Nat} {r : Option Nat} (h : w.grownBy W (some g)) (h2 : W.grownBy W' r) (hr : ∀ k, r = some k → w.heap.size ≤ k) : w.grownBy W' (some g) :=
  ⟨h2.os.trans h.os, h2.tape.trans h.tape, h2.output.trans h.output, Nat.le_trans h.size h2.size, fun k hk hne => (h2.block k (Nat.lt_of_lt_of_le hk h.size) (fun e => by have := hr k e.symm; omega)).trans (h.block k hk hne)⟩
theorem word_at {xs : List Value} {k n : Nat} (h : ∀ u ∈ xs, ∃ s : ByteArray, u = .string s ∧ s.size ≤ 16) (hn : xs.length = n) (hk : k < n) : ∃ s : ByteArray, xs[k]? = some (.string s) ∧ s.size ≤ 16 := by
  have hk' : k < xs.length := by omega
  obtain ⟨s, e, hs⟩ := h _ (List.getElem_mem hk')
  exact ⟨s, by rw [List.getElem?_eq_getElem hk', e], hs⟩
theorem words_small : ∀ u ∈ ([.string ⟨#[97, 114, 116]⟩, .string ⟨#[98, 105, 111]⟩, .string ⟨#[99, 104, 101, 109]⟩, .string ⟨#[100, 97, 116, 97]⟩] : List Value), ∃ s : ByteArray, u = .string s ∧ s.size ≤ 16 := fun u hu => by
  simp only [List.mem_cons, List.not_mem_nil, or_false] at hu
  rcases hu with rfl | rfl | rfl | rfl <;> exact ⟨_, rfl, by decide⟩
theorem names_small : ∀ u ∈ ([.string ⟨#[97, 114, 116]⟩, .string ⟨#[98, 105, 111]⟩, .string ⟨#[99, 104, 101, 109]⟩, .string ⟨#[100, 97, 116, 97]⟩, .string ⟨#[122, 111, 111]⟩, .string ⟨#[]⟩] : List Value), ∃ s : ByteArray, u = .string s ∧ s.size ≤ 16 := fun u hu => by
  simp only [List.mem_cons, List.not_mem_nil, or_false] at hu
  rcases hu with rfl | rfl | rfl | rfl | rfl | rfl <;> exact ⟨_, rfl, by decide⟩
theorem bads_small : ∀ u ∈ ([.string ⟨#[]⟩, .string ⟨#[65, 114, 116]⟩, .string ⟨#[97, 98, 99, 100, 101, 102, 103, 104, 105]⟩, .string ⟨#[122, 122]⟩] : List Value), ∃ s : ByteArray, u = .string s ∧ s.size ≤ 16 := fun u hu => by
  simp only [List.mem_cons, List.not_mem_nil, or_false] at hu
  rcases hu with rfl | rfl | rfl | rfl <;> exact ⟨_, rfl, by decide⟩
/-- What a draw of accounts carries. -/
structure Da (w W : World) (g : Nat) (a : Option Addr) (n cap b c : Nat) (l : List Ac) : Prop where
  own : W.ownsRow w.heap.size 30 3 (.slice (some ⟨b, 0, none⟩) l.length c) l.length (flatAc l)
  cur : Cur W g a n cap
  gr : w.grownBy W (some g)
  sm : ∀ x ∈ l, x.nm.size ≤ 16
theorem Da.ne {w W : World} {g n cap b c : Nat} {a : Option Addr} {l : List Ac} (h : Da w W g a n cap b c l) (hg : g < w.heap.size) : b ≠ g := by
  have := (h.own.lt b rfl).1; omega
theorem Da.drawn {w W W' : World} {g n cap b c : Nat} {a : Option Addr} {l : List Ac} (h : Da w W g a n cap b c l) (hg : g < w.heap.size) (h2 : W.grownBy W' (some g)) (hc : Cur W' g a n cap) : Da w W' g a n cap b c l :=
  ⟨h.own.kept h2 (.inr (fun e => h.ne hg (Option.some.inj e))), hc, h.gr.trans h2, h.sm⟩
theorem Da.below {w W W' : World} {g n cap b c : Nat} {a : Option Addr} {l : List Ac} (h : Da w W g a n cap b c l) (hb : Below W.heap.size W W') : Da w W' g a n cap b c l :=
  ⟨owsBelow h.own hb, h.cur.below hb, h.gr.trans ⟨hb.os, hb.tape, hb.output, hb.size, fun k hk _ => hb.block k hk⟩, h.sm⟩
/-- A block of the draw's own is written. -/
theorem Da.apart {w W : World} {g n cap b c q : Nat} {a : Option Addr} {l : List Ac} (h0 : Cur w g a n cap) (h : Da w W g a n cap b c l) (hq : w.heap.size ≤ q) (hbq : b ≠ q) (i : Nat) (v : Value) : Da w (W.setCell ⟨q, i, none⟩ v) g a n cap b c l :=
  have hg : w.grownBy (W.setCell ⟨q, i, none⟩ v) (some g) := grownOwn h.gr (Lib.grownBy_setCell W q i v) (fun k hk => by cases hk; exact hq)
  ⟨h.own.kept (Lib.grownBy_setCell W q i v) (.inr (fun e => hbq (Option.some.inj e))), h0.on hg h.cur (Lib.grownBy_setCell W q i v) (by have := h0.lt; omega), hg, h.sm⟩
/-- One is changed. -/
theorem Da.put {w W : World} {g n cap b c i q : Nat} {a : Option Addr} {l : List Ac} {v : Value} (h0 : Cur w g a n cap) (h : Da w W g a n cap b c l) (x : Ac) (hi : i < l.length) (hq : q < 3) (hx : x.cells = (l[i].cells).set q v) (hs : x.nm.size ≤ 16) :
    Da w (W.setCell ⟨b, i * 3 + q, none⟩ v) g a n cap b c (l.set i x) := by
  have hb := (h.own.lt b rfl).1
  have hg : w.grownBy (W.setCell ⟨b, i * 3 + q, none⟩ v) (some g) := grownOwn h.gr (Lib.grownBy_setCell W b (i * 3 + q) v) (fun k hk => by cases hk; exact hb)
  refine ⟨?_, h0.on hg h.cur (Lib.grownBy_setCell W b (i * 3 + q) v) (by have := h0.lt; omega), hg, fun y hy => ?_⟩
  · rw [List.length_set, ← flatAc_put x hi hq hx]
    exact (World.ownsRow.stored h.own (i * 3 + q) v).1
  · rcases List.mem_or_eq_of_mem_set hy with hy | rfl
    · exact h.sm y hy
    · exact hs
/-- One more. -/
theorem Da.more {w W W' : World} {g n cap b c b' c' : Nat} {a : Option Addr} {l : List Ac} (h0 : Cur w g a n cap) (h : Da w W g a n cap b c l) (x : Ac) (hs : x.nm.size ≤ 16)
    (hown : W'.ownsRow w.heap.size 30 3 (.slice (some ⟨b', 0, none⟩) (l.length + 1) c') (l.length + 1) (flatAc l ++ x.cells)) (hgr : W.grownBy W' (some b)) : Da w W' g a n cap b' c' (l ++ [x]) := by
  have hb := (h.own.lt b rfl).1
  have hg : w.grownBy W' (some g) := grownOwn h.gr hgr (fun k hk => by cases hk; exact hb)
  refine ⟨?_, h0.on hg h.cur hgr (by have := h0.lt; omega), hg, fun y hy => ?_⟩
  · rw [List.length_append, flatAc_add]
    exact (show flatAc [x] = x.cells by simp [flatAc]) ▸ hown
  · rcases List.mem_append.1 hy with hy | hy
    · exact h.sm y hy
    · rw [List.mem_singleton.1 hy]; exact hs
end Go.Proofs.Ytpjfampfhofeaaa

namespace Go.Proofs.Ytpjfampfhofeaaa
open Go.ChangeShapes Go.WideShapes Go.ChangeAt Go.RowKit

set_option maxHeartbeats 4000000 in
set_option maxRecDepth 100000 in
theorem l11Draw_c (g : Nat) (a : Option Addr) (n cap : Nat) (w : World) (h : Cur w g a n cap) :
    Calls Try.prog 60 #[.pointer (some ⟨g, 0, none⟩)] w fun e w' => ∃ (b c : Nat) (l : List Ac), e = .returned (.slice (some ⟨b, 0, none⟩) l.length c) ∧ l.length ≤ 4 ∧ Da w w' g a n cap b c l := by
  have H : Hid (Cur w g a n cap) := h
  have hgl := h.lt
  clear h
  obtain ⟨i0, hi2, hz0, hz1, hz2⟩ := info_parts infoAcc
  go_enter Try.func60, Try.ntmps60
  go_wp2_with fail
  have HD0 : Hid (Da w ((w.alloc (.cells #[] 30)).alloc (.cells #[.string ⟨#[97, 114, 116]⟩, .string ⟨#[98, 105, 111]⟩, .string ⟨#[99, 104, 101, 109]⟩, .string ⟨#[100, 97, 116, 97]⟩] 9)) g a n cap w.heap.size 0 []) := ⟨(World.ownsRow_made w #[] 0 (Nat.le_refl _) (by decide) rfl).alloc _, H.out.below (behind_alloc (low_alloc _ _) _), (World.grownBy_alloc w _ _).trans (World.grownBy_alloc _ _ _), fun x hx => by cases hx⟩
  have HS0 : Hid (Row ((w.alloc (.cells #[] 30)).alloc (.cells #[.string ⟨#[97, 114, 116]⟩, .string ⟨#[98, 105, 111]⟩, .string ⟨#[99, 104, 101, 109]⟩, .string ⟨#[100, 97, 116, 97]⟩] 9)) (w.heap.size + 1) [.string ⟨#[97, 114, 116]⟩, .string ⟨#[98, 105, 111]⟩, .string ⟨#[99, 104, 101, 109]⟩, .string ⟨#[100, 97, 116, 97]⟩]) := by
    have h := row_fresh (w.alloc (.cells #[] 30)) [.string ⟨#[97, 114, 116]⟩, .string ⟨#[98, 105, 111]⟩, .string ⟨#[99, 104, 101, 109]⟩, .string ⟨#[100, 97, 116, 97]⟩] 9
    rwa [show (w.alloc (.cells #[] 30)).heap.size = w.heap.size + 1 by simp [go_sem]] at h
  generalize ((w.alloc (.cells #[] 30)).alloc (.cells #[.string ⟨#[97, 114, 116]⟩, .string ⟨#[98, 105, 111]⟩, .string ⟨#[99, 104, 101, 109]⟩, .string ⟨#[100, 97, 116, 97]⟩] 9)) = w2 at HD0 HS0 ⊢
  go_loopw [10, 3] (fun iv lv wr => ∃ (k b c : Nat) (l : List Ac), k ≤ 4 ∧ iv = .int .i64 k ∧ lv = .slice (some ⟨b, 0, none⟩) l.length c ∧ l.length ≤ k ∧ b ≠ w.heap.size + 1 ∧ Da w wr g a n cap b c l ∧ Row wr (w.heap.size + 1) [.string ⟨#[97, 114, 116]⟩, .string ⟨#[98, 105, 111]⟩, .string ⟨#[99, 104, 101, 109]⟩, .string ⟨#[100, 97, 116, 97]⟩]) (fun iv _ _ => 4 - (intOf iv).toNat)
  case atStart => exact ⟨0, w.heap.size, 0, [], by omega, rfl, rfl, Nat.le_refl _, by omega, HD0.out, HS0.out⟩
  case round =>
    obtain ⟨k, b, c, l, hk, rfl, rfl, hl, hbs, hd, hs⟩ := hrel
    have HD : Hid (Da w wr g a n cap b c l) := hd
    have HS : Hid (Row wr (w.heap.size + 1) [.string ⟨#[97, 114, 116]⟩, .string ⟨#[98, 105, 111]⟩, .string ⟨#[99, 104, 101, 109]⟩, .string ⟨#[100, 97, 116, 97]⟩]) := hs
    have hgs : g ≠ w.heap.size + 1 := by omega
    clear hd hs HD0 HS0
    by_cases hk4 : k < 4
    · have hk0 : (0 : Int) ≤ (k : Int) := by omega
      have hk1 : (k : Int) < 4 := by omega
      obtain ⟨s, hws, hsz⟩ := word_at words_small (n := 4) rfl hk4
      have c0 := HS.out.cell k _ hws
      clear hws
      go_wp2_with fail
      refine (l01Below_c g a n cap 4 (by decide) (by decide) _ HD.out.cur).mono ?_
      rintro e w3 ⟨y, rfl, hy0, hy1, hg, hc⟩
      have HD3 : Hid (Da w w3 g a n cap b c l) := HD.out.drawn hgl hg hc
      have HS3 : Hid (Row w3 (w.heap.size + 1) [.string ⟨#[97, 114, 116]⟩, .string ⟨#[98, 105, 111]⟩, .string ⟨#[99, 104, 101, 109]⟩, .string ⟨#[100, 97, 116, 97]⟩]) := HS.out.far hg (fun e => hgs (Option.some.inj e).symm)
      clear hg hc HD HS c0
      by_cases hy : 0 < y
      · go_wp2_with fail
        refine (l01Below_c g a n cap 5 (by decide) (by decide) _ HD3.out.cur).mono ?_
        rintro e w4 ⟨m, rfl, hm0, hm1, hg, hc⟩
        have HD4 : Hid (Da w w4 g a n cap b c l) := HD3.out.drawn hgl hg hc
        have HS4 : Hid (Row w4 (w.heap.size + 1) [.string ⟨#[97, 114, 116]⟩, .string ⟨#[98, 105, 111]⟩, .string ⟨#[99, 104, 101, 109]⟩, .string ⟨#[100, 97, 116, 97]⟩]) := HS3.out.far hg (fun e => hgs (Option.some.inj e).symm)
        clear hg hc HD3 HS3
        obtain ⟨sh, hsh⟩ : ∃ sh : Int, sh = 1 + m := ⟨_, rfl⟩
        have hsm : 1 + m = sh := hsh.symm
        have hsh0 : 0 ≤ sh := by omega
        have hsh1 : sh ≤ 5 := by omega
        clear hsh
        go_wp2_with fail
        refine (l01Below_c g a n cap 30 (by decide) (by decide) _ HD4.out.cur).mono ?_
        rintro e w5 ⟨us, rfl, hu0, hu1, hg, hc⟩
        have HD5 : Hid (Da w w5 g a n cap b c l) := HD4.out.drawn hgl hg hc
        have HS5 : Hid (Row w5 (w.heap.size + 1) [.string ⟨#[97, 114, 116]⟩, .string ⟨#[98, 105, 111]⟩, .string ⟨#[99, 104, 101, 109]⟩, .string ⟨#[100, 97, 116, 97]⟩]) := HS4.out.far hg (fun e => hgs (Option.some.inj e).symm)
        clear hg hc HD4 HS4
        have HQ6 : Hid (Row (w5.alloc (.cells #[.string s, .int .i64 sh, .int .i64 us] 30)) w5.heap.size [.string s, .int .i64 sh, .int .i64 us]) := row_fresh w5 [.string s, .int .i64 sh, .int .i64 us] 30
        have HD6 : Hid (Da w (w5.alloc (.cells #[.string s, .int .i64 sh, .int .i64 us] 30)) g a n cap b c l) := HD5.out.below (low_alloc _ _)
        have HS6 : Hid (Row (w5.alloc (.cells #[.string s, .int .i64 sh, .int .i64 us] 30)) (w.heap.size + 1) [.string ⟨#[97, 114, 116]⟩, .string ⟨#[98, 105, 111]⟩, .string ⟨#[99, 104, 101, 109]⟩, .string ⟨#[100, 97, 116, 97]⟩]) := HS5.out.below (low_alloc _ _)
        have hq1 := HS5.out.lt
        have hq2 := (HD5.out.own.lt b rfl).2
        have hq3 := HD5.out.cur.lt
        go_wp2_with fail
        generalize w5.alloc (.cells #[.string s, .int .i64 sh, .int .i64 us] 30) = w6 at HQ6 HD6 HS6
        have hqs : w.heap.size + 1 ≠ w5.heap.size := by omega
        have hqb : b ≠ w5.heap.size := by omega
        have hqg : g ≠ w5.heap.size := by omega
        have hqw : w.heap.size ≤ w5.heap.size := by omega
        generalize w5.heap.size = q at HQ6 hqs hqb hqg hqw ⊢
        clear HD5 HS5 hq1 hq2 hq3 hsm
        refine (l01Below_c g a n cap 9 (by decide) (by decide) _ HD6.out.cur).mono ?_
        rintro e w7 ⟨z, rfl, hz0', hz1', hg, hc⟩
        have HD7 : Hid (Da w w7 g a n cap b c l) := HD6.out.drawn hgl hg hc
        have HS7 : Hid (Row w7 (w.heap.size + 1) [.string ⟨#[97, 114, 116]⟩, .string ⟨#[98, 105, 111]⟩, .string ⟨#[99, 104, 101, 109]⟩, .string ⟨#[100, 97, 116, 97]⟩]) := HS6.out.far hg (fun e => hgs (Option.some.inj e).symm)
        have HQ7 : Hid (Row w7 q [.string s, .int .i64 sh, .int .i64 us]) := HQ6.out.far hg (fun e => hqg (Option.some.inj e).symm)
        clear hg hc HD6 HS6 HQ6
        go_upto_if 26 with fail
        go_cut [] (fun wc => ∃ us' : Int, Row wc q [.string s, .int .i64 sh, .int .i64 us'] ∧ Da w wc g a n cap b c l ∧ Row wc (w.heap.size + 1) [.string ⟨#[97, 114, 116]⟩, .string ⟨#[98, 105, 111]⟩, .string ⟨#[99, 104, 101, 109]⟩, .string ⟨#[100, 97, 116, 97]⟩])
        case first =>
          by_cases h0 : z = 0
          · have hi : (z == 0) = true := by simp [h0]
            clear h0
            go_wp2_with fail
            refine (l01Below_c g a n cap 3 (by decide) (by decide) _ HD7.out.cur).mono ?_
            rintro e w8 ⟨t, rfl, ht0, ht1, hg, hc⟩
            have HD8 : Hid (Da w w8 g a n cap b c l) := HD7.out.drawn hgl hg hc
            have HS8 : Hid (Row w8 (w.heap.size + 1) [.string ⟨#[97, 114, 116]⟩, .string ⟨#[98, 105, 111]⟩, .string ⟨#[99, 104, 101, 109]⟩, .string ⟨#[100, 97, 116, 97]⟩]) := HS7.out.far hg (fun e => hgs (Option.some.inj e).symm)
            have HQ8 : Hid (Row w8 q [.string s, .int .i64 sh, .int .i64 us]) := HQ7.out.far hg (fun e => hqg (Option.some.inj e).symm)
            clear hg hc HD7 HS7 HQ7
            have d2 := HQ8.out.cell 2 _ rfl
            have f2 := HQ8.out.free 2
            have HQ9 : Hid (Row (w8.setCell ⟨q, 2, none⟩ (.int .i64 (1000000000 - t))) q [.string s, .int .i64 sh, .int .i64 (1000000000 - t)]) := HQ8.out.set 2 (by simp) _
            have HD9 : Hid (Da w (w8.setCell ⟨q, 2, none⟩ (.int .i64 (1000000000 - t))) g a n cap b c l) := Da.apart H.out HD8.out hqw hqb 2 _
            have HS9 : Hid (Row (w8.setCell ⟨q, 2, none⟩ (.int .i64 (1000000000 - t))) (w.heap.size + 1) [.string ⟨#[97, 114, 116]⟩, .string ⟨#[98, 105, 111]⟩, .string ⟨#[99, 104, 101, 109]⟩, .string ⟨#[100, 97, 116, 97]⟩]) := HS8.out.apart q 2 _ hqs
            go_wp2_with fail
            go_meet
            case rel => exact ⟨_, HQ9.out, HD9.out, HS9.out⟩
          · have hi : (z == 0) = false := by simp [h0]
            clear h0
            go_wp2_with fail
            go_meet
            case rel => exact ⟨us, HQ7.out, HD7.out, HS7.out⟩
        case rest =>
        obtain ⟨us', hq, hd, hs⟩ := hcut
        obtain ⟨w9, hw9⟩ : ∃ u, u = wc := ⟨_, rfl⟩
        subst hw9
        have HQ9 : Hid (Row w9 q [.string s, .int .i64 sh, .int .i64 us']) := hq
        have HD9 : Hid (Da w w9 g a n cap b c l) := hd
        have HS9 : Hid (Row w9 (w.heap.size + 1) [.string ⟨#[97, 114, 116]⟩, .string ⟨#[98, 105, 111]⟩, .string ⟨#[99, 104, 101, 109]⟩, .string ⟨#[100, 97, 116, 97]⟩]) := hs
        clear hq hd hs HD7 HS7 HQ7 hz0' hz1'
        have d0 := HQ9.out.cell 0 _ rfl
        have d1 := HQ9.out.cell 1 _ rfl
        have d2 := HQ9.out.cell 2 _ rfl
        have HDa : Hid (Da w (w9.alloc (.cells #[.string s, .int .i64 sh, .int .i64 us'] 30)) g a n cap b c l) := HD9.out.below (low_alloc _ _)
        have HSa : Hid (Row (w9.alloc (.cells #[.string s, .int .i64 sh, .int .i64 us'] 30)) (w.heap.size + 1) [.string ⟨#[97, 114, 116]⟩, .string ⟨#[98, 105, 111]⟩, .string ⟨#[99, 104, 101, 109]⟩, .string ⟨#[100, 97, 116, 97]⟩]) := HS9.out.below (low_alloc _ _)
        have hsa := HDa.out.gr.size
        have hss := HSa.out.lt
        go_wp2_with (at_builtin; refine wpList_append_own_at _ rfl _ _ 23 rfl w.heap.size 30 i0 (.agg #[.string ⟨#[]⟩, .int .i64 0, .int .i64 0]) 3 32 Try.underlying23 hi2 hz0 hz1 hz2 rfl (by decide) (.slice (some ⟨b, 0, none⟩) l.length c) l.length (flatAc l) rfl HDa.out.own ⟨w9.heap.size, 0, none⟩ 1 1 [.string s, .int .i64 sh, .int .i64 us'] rfl rfl ?c1 ?c2 ?c3 ?c4 ?c5 ?_)
        case c1 =>
          intro j v hv
          rw [add_plain, Nat.zero_add]
          exact (row_fresh w9 [.string s, .int .i64 sh, .int .i64 us'] 30).cell j v hv
        case c2 => simp [Value.oneCell']
        case c3 => unfold maxLen; omega
        case c4 => omega
        case c5 => exact hsa
        · intro v' wb hown hgrow _ hat
          obtain ⟨b', c', rfl⟩ : ∃ b' c', v' = .slice (some ⟨b', 0, none⟩) (l.length + 1) c' := by
            rcases hown.2 with ⟨_, hz⟩ | ⟨g', cap, _, e, _⟩
            · omega
            · exact ⟨g', cap, e⟩
          have hb' : b' ≠ w.heap.size + 1 := fun e => by
            rcases hat with h | h
            · exact hbs ((Option.some.inj h).symm.trans e)
            · have h2 : b' = w9.heap.size + 1 := Option.some.inj h
              have h3 := HS9.out.lt
              omega
          have HDb : Hid (Da w wb g a n cap b' c' (l ++ [⟨s, sh, us'⟩])) := Da.more H.out HDa.out ⟨s, sh, us'⟩ hsz hown hgrow
          have HSb : Hid (Row wb (w.heap.size + 1) [.string ⟨#[97, 114, 116]⟩, .string ⟨#[98, 105, 111]⟩, .string ⟨#[99, 104, 101, 109]⟩, .string ⟨#[100, 97, 116, 97]⟩]) := HSa.out.far hgrow (fun e => hbs (Option.some.inj e).symm)
          clear hown hgrow hat HDa HSa hsa hss HQ9 HD9 HS9 d0 d1 d2
          go_wp2_with fail
          go_roundw
          case rel => exact ⟨k + 1, b', c', l ++ [⟨s, sh, us'⟩], by omega, by go_num, by rw [List.length_append]; rfl, by rw [List.length_append]; simp; omega, hb', HDb.out, HSb.out⟩
          case measure => simp [intOf]; omega
      · go_wp2_with fail
        go_roundw
        case rel => exact ⟨k + 1, b, c, l, by omega, by go_num, rfl, by omega, hbs, HD3.out, HS3.out⟩
        case measure => simp [intOf]; omega
    · go_wp2_with fail
      go_ret
      exact ⟨b, c, l, rfl, by omega, HD.out⟩
set_option maxHeartbeats 1000000 in
theorem l11Name_c (g : Nat) (a : Option Addr) (n cap : Nat) (w : World) (h : Cur w g a n cap) :
    Calls Try.prog 47 #[.pointer (some ⟨g, 0, none⟩)] w fun e w' => ∃ s : ByteArray, e = .returned (.string s) ∧ s.size ≤ 16 ∧ Cur w' g a n cap ∧ w.grownBy w' (some g) := by
  have H : Hid (Cur w g a n cap) := h
  have hgl := h.lt
  clear h
  go_enter Try.func47, Try.ntmps47
  go_wp2_with fail
  have HS : Hid (Row (w.alloc (.cells #[.string ⟨#[97, 114, 116]⟩, .string ⟨#[98, 105, 111]⟩, .string ⟨#[99, 104, 101, 109]⟩, .string ⟨#[100, 97, 116, 97]⟩, .string ⟨#[122, 111, 111]⟩, .string ⟨#[]⟩] 9)) w.heap.size [.string ⟨#[97, 114, 116]⟩, .string ⟨#[98, 105, 111]⟩, .string ⟨#[99, 104, 101, 109]⟩, .string ⟨#[100, 97, 116, 97]⟩, .string ⟨#[122, 111, 111]⟩, .string ⟨#[]⟩]) := row_fresh w [.string ⟨#[97, 114, 116]⟩, .string ⟨#[98, 105, 111]⟩, .string ⟨#[99, 104, 101, 109]⟩, .string ⟨#[100, 97, 116, 97]⟩, .string ⟨#[122, 111, 111]⟩, .string ⟨#[]⟩] 9
  have HC : Hid (Cur (w.alloc (.cells #[.string ⟨#[97, 114, 116]⟩, .string ⟨#[98, 105, 111]⟩, .string ⟨#[99, 104, 101, 109]⟩, .string ⟨#[100, 97, 116, 97]⟩, .string ⟨#[122, 111, 111]⟩, .string ⟨#[]⟩] 9)) g a n cap) := H.out.below (low_alloc _ _)
  have HG : Hid (w.grownBy (w.alloc (.cells #[.string ⟨#[97, 114, 116]⟩, .string ⟨#[98, 105, 111]⟩, .string ⟨#[99, 104, 101, 109]⟩, .string ⟨#[100, 97, 116, 97]⟩, .string ⟨#[122, 111, 111]⟩, .string ⟨#[]⟩] 9)) (some g)) := World.grownBy_alloc w _ _
  generalize w.alloc (.cells #[.string ⟨#[97, 114, 116]⟩, .string ⟨#[98, 105, 111]⟩, .string ⟨#[99, 104, 101, 109]⟩, .string ⟨#[100, 97, 116, 97]⟩, .string ⟨#[122, 111, 111]⟩, .string ⟨#[]⟩] 9) = w1 at HS HC HG ⊢
  refine (l01Below_c g a n cap 6 (by decide) (by decide) _ HC.out).mono ?_
  rintro e w2 ⟨y, rfl, hy0, hy1, hg, hc⟩
  obtain ⟨k, rfl⟩ : ∃ k : Nat, y = k := ⟨y.toNat, by omega⟩
  have HS2 : Hid (Row w2 w.heap.size [.string ⟨#[97, 114, 116]⟩, .string ⟨#[98, 105, 111]⟩, .string ⟨#[99, 104, 101, 109]⟩, .string ⟨#[100, 97, 116, 97]⟩, .string ⟨#[122, 111, 111]⟩, .string ⟨#[]⟩]) := HS.out.far hg (fun e => by have := Option.some.inj e; omega)
  have HG2 : Hid (w.grownBy w2 (some g)) := HG.out.trans hg
  have HC2 : Hid (Cur w2 g a n cap) := hc
  obtain ⟨s, hws, hsz⟩ := word_at names_small (n := 6) (k := k) rfl (by omega)
  have c0 := HS2.out.cell k _ hws
  clear hg hc hws HS HC HG
  go_wp2_with fail
  go_ret
  exact ⟨s, rfl, hsz, HC2.out, HG2.out⟩
end Go.Proofs.Ytpjfampfhofeaaa

namespace Go.Proofs.Ytpjfampfhofeaaa
open Go.ChangeShapes Go.WideShapes Go.ChangeAt Go.RowKit

set_option maxHeartbeats 4000000 in
set_option maxRecDepth 100000 in
theorem l11Any_c (g : Nat) (a : Option Addr) (n cap : Nat) (w : World) (h : Cur w g a n cap) :
    Calls Try.prog 38 #[.pointer (some ⟨g, 0, none⟩)] w fun e w' => ∃ (b c : Nat) (l : List Ac), e = .returned (.slice (some ⟨b, 0, none⟩) l.length c) ∧ l.length ≤ 5 ∧ Da w w' g a n cap b c l := by
  have H : Hid (Cur w g a n cap) := h
  have hgl := h.lt
  clear h
  obtain ⟨i0, hi2, hz0, hz1, hz2⟩ := info_parts infoAcc
  go_enter Try.func38, Try.ntmps38
  go_wp2_with fail
  refine (l11Draw_c g a n cap _ H.out).mono ?_
  rintro e w1 ⟨b, c, l, rfl, hl, hd⟩
  have HD1 : Hid (Da w w1 g a n cap b c l) := hd
  clear hd
  go_wp2_with fail
  refine (l01Below_c g a n cap 14 (by decide) (by decide) _ HD1.out.cur).mono ?_
  rintro e w2 ⟨k, rfl, hk0, hk1, hg, hc⟩
  have HD2 : Hid (Da w w2 g a n cap b c l) := HD1.out.drawn hgl hg hc
  clear hg hc HD1
  by_cases h0 : l.length = 0
  · have hi : ((l.length : Int) == 0) = true := by simp [h0]
    have hl5 : l.length ≤ 5 := by omega
    clear h0
    go_wp2_with fail
    go_ret
    exact ⟨b, c, l, rfl, hl5, HD2.out⟩
  · have hi : ((l.length : Int) == 0) = false := by rw [beq_eq_false_iff_ne]; omega
    have HL : Hid (l.length ≠ 0) := h0
    clear h0
    go_wp2_with fail
    refine (l01Below_c g a n cap (l.length : Int) (by have := HL.out; omega) (by omega) _ HD2.out.cur).mono ?_
    rintro e w3 ⟨y, rfl, hy0, hy1, hg, hc⟩
    obtain ⟨i, rfl⟩ : ∃ i : Nat, y = i := ⟨y.toNat, by omega⟩
    have HD3 : Hid (Da w w3 g a n cap b c l) := HD2.out.drawn hgl hg hc
    have hil : i < l.length := by omega
    clear hg hc HD2 hi
    have HX : Hid ((flatAc l).length = 3 * l.length) := flatAc_len l
    by_cases h5 : 4 ≤ k
    · have e0 : (k == 0) = false := by rw [beq_eq_false_iff_ne]; omega
      have e1 : (k == 1) = false := by rw [beq_eq_false_iff_ne]; omega
      have e2 : (k == 2) = false := by rw [beq_eq_false_iff_ne]; omega
      have e3 : (k == 3) = false := by rw [beq_eq_false_iff_ne]; omega
      clear h5
      go_wp2_with fail
      go_ret
      exact ⟨b, c, l, rfl, by omega, HD3.out⟩
    · obtain rfl | rfl | rfl | rfl : k = 0 ∨ k = 1 ∨ k = 2 ∨ k = 3 := by omega
      · clear h5 hk0 hk1
        go_wp2_with fail
        refine (l01Raw_c g a n cap _ HD3.out.cur).mono ?_
        rintro e w4 ⟨x, rfl, hg, hc⟩
        have HD4 : Hid (Da w w4 g a n cap b c l) := HD3.out.drawn hgl hg hc
        clear hg hc HD3
        have d := (owsRow HD4.out.own).1.cell (i * 3 + 1) _ (List.getElem?_eq_getElem (by rw [HX.out]; omega))
        have f := (owsRow HD4.out.own).1.free (i * 3 + 1)
        have HD5 : Hid (Da w (w4.setCell ⟨b, i * 3 + 1, none⟩ (.int .i64 x)) g a n cap b c (l.set i { l[i] with sh := x })) := Da.put H.out HD4.out { l[i] with sh := x } hil (by decide) rfl (HD4.out.sm l[i] (List.getElem_mem hil))
        go_wp2_with fail
        go_ret
        exact ⟨b, c, _, by rw [List.length_set]; rfl, by rw [List.length_set]; omega, HD5.out⟩
      · clear h5 hk0 hk1
        go_wp2_with fail
        refine (l01Raw_c g a n cap _ HD3.out.cur).mono ?_
        rintro e w4 ⟨x, rfl, hg, hc⟩
        have HD4 : Hid (Da w w4 g a n cap b c l) := HD3.out.drawn hgl hg hc
        clear hg hc HD3
        have d := (owsRow HD4.out.own).1.cell (i * 3 + 2) _ (List.getElem?_eq_getElem (by rw [HX.out]; omega))
        have f := (owsRow HD4.out.own).1.free (i * 3 + 2)
        have HD5 : Hid (Da w (w4.setCell ⟨b, i * 3 + 2, none⟩ (.int .i64 x)) g a n cap b c (l.set i { l[i] with us := x })) := Da.put H.out HD4.out { l[i] with us := x } hil (by decide) rfl (HD4.out.sm l[i] (List.getElem_mem hil))
        go_wp2_with fail
        go_ret
        exact ⟨b, c, _, by rw [List.length_set]; rfl, by rw [List.length_set]; omega, HD5.out⟩
      · clear h5 hk0 hk1
        have HS4 : Hid (Row (w3.alloc (.cells #[.string ⟨#[]⟩, .string ⟨#[65, 114, 116]⟩, .string ⟨#[97, 98, 99, 100, 101, 102, 103, 104, 105]⟩, .string ⟨#[122, 122]⟩] 9)) w3.heap.size [.string ⟨#[]⟩, .string ⟨#[65, 114, 116]⟩, .string ⟨#[97, 98, 99, 100, 101, 102, 103, 104, 105]⟩, .string ⟨#[122, 122]⟩]) := row_fresh w3 [.string ⟨#[]⟩, .string ⟨#[65, 114, 116]⟩, .string ⟨#[97, 98, 99, 100, 101, 102, 103, 104, 105]⟩, .string ⟨#[122, 122]⟩] 9
        have HD4 : Hid (Da w (w3.alloc (.cells #[.string ⟨#[]⟩, .string ⟨#[65, 114, 116]⟩, .string ⟨#[97, 98, 99, 100, 101, 102, 103, 104, 105]⟩, .string ⟨#[122, 122]⟩] 9)) g a n cap b c l) := HD3.out.below (low_alloc _ _)
        have hgs : g ≠ w3.heap.size := by have := HD3.out.cur.lt; omega
        go_wp2_with fail
        generalize w3.alloc (.cells #[.string ⟨#[]⟩, .string ⟨#[65, 114, 116]⟩, .string ⟨#[97, 98, 99, 100, 101, 102, 103, 104, 105]⟩, .string ⟨#[122, 122]⟩] 9) = w4 at HS4 HD4
        generalize w3.heap.size = q at HS4 hgs ⊢
        clear HD3
        refine (l01Below_c g a n cap 4 (by decide) (by decide) _ HD4.out.cur).mono ?_
        rintro e w5 ⟨y, rfl, hz0', hz1', hg, hc⟩
        obtain ⟨m, rfl⟩ : ∃ m : Nat, y = m := ⟨y.toNat, by omega⟩
        have HS5 : Hid (Row w5 q [.string ⟨#[]⟩, .string ⟨#[65, 114, 116]⟩, .string ⟨#[97, 98, 99, 100, 101, 102, 103, 104, 105]⟩, .string ⟨#[122, 122]⟩]) := HS4.out.far hg (fun e => hgs (Option.some.inj e).symm)
        have HD5 : Hid (Da w w5 g a n cap b c l) := HD4.out.drawn hgl hg hc
        obtain ⟨s, hws, hsz⟩ := word_at bads_small (n := 4) (k := m) rfl (by omega)
        have c0 := HS5.out.cell m _ hws
        have d := (owsRow HD5.out.own).1.cell (i * 3) _ (List.getElem?_eq_getElem (by rw [HX.out]; omega))
        have f := (owsRow HD5.out.own).1.free (i * 3)
        have HD6 : Hid (Da w (w5.setCell ⟨b, i * 3, none⟩ (.string s)) g a n cap b c (l.set i { l[i] with nm := s })) := Da.put (q := 0) H.out HD5.out { l[i] with nm := s } hil (by decide) rfl hsz
        clear hg hc hws HS4 HD4
        go_wp2_with fail
        go_ret
        exact ⟨b, c, _, by rw [List.length_set]; rfl, by rw [List.length_set]; omega, HD6.out⟩
      · clear h5 hk0 hk1
        have h0l : 0 < l.length := by omega
        have HX0 : Hid (l[0]? = some l[0]) := List.getElem?_eq_getElem h0l
        have HSm : Hid (l[0].nm.size ≤ 16) := HD3.out.sm _ (List.getElem_mem h0l)
        generalize l[0] = x at HX0 HSm
        have hr := (owsRow HD3.out.own).1
        have g0 := hr.cell (0 * 3 + 0) _ ((flatAc_get l 0 0 h0l (by decide)).trans (by rw [show l[0] = x from Option.some.inj ((List.getElem?_eq_getElem h0l).symm.trans HX0.out)]; rfl))
        have g1 := hr.cell (0 * 3 + 1) _ ((flatAc_get l 0 1 h0l (by decide)).trans (by rw [show l[0] = x from Option.some.inj ((List.getElem?_eq_getElem h0l).symm.trans HX0.out)]; rfl))
        have g2 := hr.cell (0 * 3 + 2) _ ((flatAc_get l 0 2 h0l (by decide)).trans (by rw [show l[0] = x from Option.some.inj ((List.getElem?_eq_getElem h0l).symm.trans HX0.out)]; rfl))
        simp only [Nat.zero_mul, Nat.zero_add] at g0 g1 g2
        have HDa : Hid (Da w (w3.alloc (.cells #[.string x.nm, .int .i64 x.sh, .int .i64 x.us] 30)) g a n cap b c l) := HD3.out.below (low_alloc _ _)
        have hsa := HDa.out.gr.size
        have hi0 : (0 : Int) < (l.length : Int) := by omega
        clear hr
        go_wp2_with (at_builtin; refine wpList_append_own_at _ rfl _ _ 23 rfl w.heap.size 30 i0 (.agg #[.string ⟨#[]⟩, .int .i64 0, .int .i64 0]) 3 32 Try.underlying23 hi2 hz0 hz1 hz2 rfl (by decide) (.slice (some ⟨b, 0, none⟩) l.length c) l.length (flatAc l) rfl HDa.out.own ⟨w3.heap.size, 0, none⟩ 1 1 [.string x.nm, .int .i64 x.sh, .int .i64 x.us] rfl rfl ?c1 ?c2 ?c3 ?c4 ?c5 ?_)
        case c1 =>
          intro j v hv
          rw [add_plain, Nat.zero_add]
          exact (row_fresh w3 [.string x.nm, .int .i64 x.sh, .int .i64 x.us] 30).cell j v hv
        case c2 => simp [Value.oneCell']
        case c3 => unfold maxLen; omega
        case c4 => omega
        case c5 => exact hsa
        · intro v' wb hown hgrow _ hat
          obtain ⟨b', c', rfl⟩ : ∃ b' c', v' = .slice (some ⟨b', 0, none⟩) (l.length + 1) c' := by
            rcases hown.2 with ⟨_, hz⟩ | ⟨g', cap, _, e, _⟩
            · omega
            · exact ⟨g', cap, e⟩
          have HDb : Hid (Da w wb g a n cap b' c' (l ++ [x])) := Da.more H.out HDa.out x HSm.out hown hgrow
          clear hown hgrow hat HDa hsa g0 g1 g2 HD3
          go_wp2_with fail
          go_ret
          exact ⟨b', c', l ++ [x], by rw [List.length_append]; rfl, by rw [List.length_append]; simp; omega, HDb.out⟩
set_option maxHeartbeats 1000000 in
theorem drawRanks_c (a : Option Addr) (n cap : Nat) (w : World) (h : CodeIs w a n) :
    Calls Try.prog 12 #[.slice a n cap] w fun e w' => ∃ (b c : Nat) (l : List Ac), e = .returned (.slice (some ⟨b, 0, none⟩) l.length c) ∧ l.length ≤ 5 ∧ (∀ x ∈ l, x.nm.size ≤ 16) ∧ Row w' b (flatAc l) ∧ Below w.heap.size w w' := by
  have H : Hid (CodeIs w a n) := h
  clear h
  go_enter Try.func12, Try.ntmps12
  go_wp2_with fail
  refine (l01New_c a n cap _ H.out).mono ?_
  rintro e w1 ⟨g, rfl, hg1, hb1, hc1⟩
  have HB1 : Hid (Below w.heap.size w w1) := hb1
  have HC1 : Hid (Cur w1 g a n cap) := hc1
  have hwg : w.heap.size ≤ g := hg1
  clear hb1 hc1 hg1
  go_wp2_with fail
  refine (l11Any_c g a n cap _ HC1.out).mono ?_
  rintro e w2 ⟨b, c, l, rfl, hl, hd⟩
  have HR2 : Hid (Row w2 b (flatAc l)) := (owsRow hd.own).1
  have HB2 : Hid (Below w.heap.size w w2) := below_grown HB1.out hd.gr hwg
  have HSm : Hid (∀ x ∈ l, x.nm.size ≤ 16) := hd.sm
  clear hd
  go_wp2_with fail
  go_ret
  exact ⟨b, c, l, rfl, hl, HSm.out, HR2.out, HB2.out⟩
set_option maxHeartbeats 1000000 in
theorem drawCharge_c (a : Option Addr) (n cap : Nat) (w : World) (h : CodeIs w a n) :
    Calls Try.prog 17 #[.slice a n cap] w fun e w' => ∃ (b c : Nat) (l : List Ac) (s : ByteArray) (m : Int), e = .returned (.tuple #[.slice (some ⟨b, 0, none⟩) l.length c, .string s, .int .i64 m]) ∧ l.length ≤ 5 ∧ (∀ x ∈ l, x.nm.size ≤ 16) ∧ s.size ≤ 16 ∧ Row w' b (flatAc l) ∧ Below w.heap.size w w' := by
  have H : Hid (CodeIs w a n) := h
  clear h
  go_enter Try.func17, Try.ntmps17
  go_wp2_with fail
  refine (l01New_c a n cap _ H.out).mono ?_
  rintro e w1 ⟨g, rfl, hg1, hb1, hc1⟩
  have HB1 : Hid (Below w.heap.size w w1) := hb1
  have HC1 : Hid (Cur w1 g a n cap) := hc1
  have hwg : w.heap.size ≤ g := hg1
  have hgl := hc1.lt
  clear hb1 hc1 hg1
  go_wp2_with fail
  refine (l11Any_c g a n cap _ HC1.out).mono ?_
  rintro e w2 ⟨b, c, l, rfl, hl, hd⟩
  have HD2 : Hid (Da w1 w2 g a n cap b c l) := hd
  clear hd
  go_wp2_with fail
  refine (l01Below_c g a n cap 50 (by decide) (by decide) _ HD2.out.cur).mono ?_
  rintro e w3 ⟨m, rfl, hm0, hm1, hg, hc⟩
  have HD3 : Hid (Da w1 w3 g a n cap b c l) := HD2.out.drawn hgl hg hc
  clear hg hc HD2
  go_wp2_with fail
  refine (l01Below_c g a n cap 8 (by decide) (by decide) _ HD3.out.cur).mono ?_
  rintro e w4 ⟨k, rfl, hk0, hk1, hg, hc⟩
  have HD4 : Hid (Da w1 w4 g a n cap b c l) := HD3.out.drawn hgl hg hc
  clear hg hc HD3
  by_cases h0 : k = 0
  · have hi : (k == 0) = true := by simp [h0]
    clear h0
    go_wp2_with fail
    refine (l01Raw_c g a n cap _ HD4.out.cur).mono ?_
    rintro e w5 ⟨x, rfl, hg, hc⟩
    have HD5 : Hid (Da w1 w5 g a n cap b c l) := HD4.out.drawn hgl hg hc
    clear hg hc HD4
    go_wp2_with fail
    refine (l11Name_c g a n cap _ HD5.out.cur).mono ?_
    rintro e w6 ⟨s, rfl, hs, hc, hg⟩
    have HD6 : Hid (Da w1 w6 g a n cap b c l) := HD5.out.drawn hgl hg hc
    have HB6 : Hid (Below w.heap.size w w6) := below_grown HB1.out HD6.out.gr hwg
    clear hg hc HD5
    go_wp2_with fail
    go_returns
    exact ⟨b, c, l, s, x, rfl, hl, HD6.out.sm, hs, (owsRow HD6.out.own).1, HB6.out⟩
  · have hi : (k == 0) = false := by simp [h0]
    clear h0
    go_wp2_with fail
    refine (l11Name_c g a n cap _ HD4.out.cur).mono ?_
    rintro e w6 ⟨s, rfl, hs, hc, hg⟩
    have HD6 : Hid (Da w1 w6 g a n cap b c l) := HD4.out.drawn hgl hg hc
    have HB6 : Hid (Below w.heap.size w w6) := below_grown HB1.out HD6.out.gr hwg
    clear hg hc HD4
    go_wp2_with fail
    go_returns
    exact ⟨b, c, l, s, m, rfl, hl, HD6.out.sm, hs, (owsRow HD6.out.own).1, HB6.out⟩
end Go.Proofs.Ytpjfampfhofeaaa

namespace Go.Proofs.Ytpjfampfhofeaaa
open Go.ChangeShapes Go.WideShapes Go.ChangeAt Go.RowKit

set_option maxHeartbeats 1000000 in
theorem hasIn_c (a : Option Addr) (cap : Nat) (xs : List Int) (n : Int) (hl : xs.length ≤ 4294967296) (w : World) (h : Sq w a (ints xs)) :
    Calls Try.prog 15 #[.slice a xs.length cap, .int .i64 n] w fun e w' => e = .returned (.bool (decide (n ∈ xs))) ∧ Below w.heap.size w w' := by
  have H : Hid (Sq w a (ints xs)) := h
  clear h
  go_enter Try.func15, Try.ntmps15
  go_wp2_with fail
  go_loopw [9] (fun i wr => ∃ j : Nat, j ≤ xs.length ∧ i = .int .i64 j ∧ (∀ k, k < j → xs[k]? ≠ some n) ∧ Below w.heap.size w wr) (fun i _ => xs.length - (intOf i).toNat)
  case atStart => exact ⟨0, Nat.zero_le _, rfl, fun k h => by omega, Below.refl _ _⟩
  case round =>
    obtain ⟨j, hj, rfl, he, hb⟩ := hrel
    have HE : Hid (∀ k, k < j → xs[k]? ≠ some n) := he
    have HB : Hid (Below w.heap.size w wr) := hb
    clear he hb
    by_cases hlt : j < xs.length
    · have hi0 : (0 : Int) ≤ (j : Int) := by omega
      have hi1 : (j : Int) < (xs.length : Int) := by omega
      obtain ⟨p, rfl, _, hc⟩ := (H.out.below HB.out).cell j _ (ints_at xs j hlt)
      have HX : Hid (xs[j]? = some xs[j]) := List.getElem?_eq_getElem hlt
      generalize xs[j] = x at hc HX
      by_cases hx : x = n
      · subst hx
        have HM : Hid (decide (x ∈ xs) = true) := by show _ = _; simp; exact List.mem_of_getElem? HX.out
        go_wp2_with fail
        go_ret
        exact ⟨by rw [HM.out]; rfl, HB.out⟩
      · have hi : (x == n) = false := by simpa using hx
        have HE1 : Hid (∀ k, k < j + 1 → xs[k]? ≠ some n) := fun k hk => by
          by_cases e : k = j
          · subst e; rw [HX.out]; intro e1; exact hx (Option.some.inj e1)
          · exact HE.out k (by omega)
        go_wp2_with fail
        go_roundw
        case rel => exact ⟨j + 1, by omega, by go_num, HE1.out, HB.out⟩
        case measure => simp [intOf]; omega
    · have HM : Hid (decide (n ∈ xs) = false) := by
        show _ = _
        simp only [decide_eq_false_iff_not]
        intro hm
        obtain ⟨k, hk⟩ := List.getElem?_of_mem hm
        have hk2 := (List.getElem?_eq_some_iff.1 hk).1
        exact HE.out k (by omega) hk
      go_wp2_with fail
      go_ret
      exact ⟨by rw [HM.out]; rfl, HB.out⟩
theorem sq_take {w : World} {a : Option Addr} {xs : List Int} (h : Sq w a (ints xs)) (j : Nat) : Sq w a (ints (xs.take j)) :=
  ⟨fun i u hu => by
    refine h.cell i u ?_
    unfold ints at *
    rw [List.map_take] at hu
    rw [List.getElem?_take] at hu
    split at hu
    · exact hu
    · cases hu⟩
set_option maxHeartbeats 4000000 in
set_option maxRecDepth 100000 in
/-- The loop: each rank is one that no other has, and the priority tells it. -/
theorem fnRanks_walk (a : Option Addr) (n cap : Nat) (w : World) (h : n ≤ 1048576 → CodeIs w a n) :
    Calls Try.prog 3 #[.slice a n cap] w fun e w' => e = .returned (.bool true) ∧ Below w.heap.size w w' := by
  have H : Hid (n ≤ 1048576 → CodeIs w a n) := h
  clear h
  by_cases hn : n ≤ 1048576
  · have hi : ¬ (1048576 : Int) < (n : Int) := by omega
    have HC : Hid (CodeIs w a n) := H.out hn
    clear H
    go_enter Try.func3, Try.ntmps3
    go_wp2_with fail
    refine (drawRanks_c a n cap _ HC.out).mono ?_
    rintro e w1 ⟨b, c, l, rfl, hl, hsm, hr, hb⟩
    have HR1 : Hid (Row w1 b (flatAc l)) := hr
    have HB1 : Hid (Below w.heap.size w w1) := hb
    have HZ : Hid (∀ x ∈ l, x.nm.size ≤ 1048576) := fun x hx => Nat.le_trans (hsm x hx) (by decide)
    clear hr hb hi hn HC hsm
    go_wp2_with fail
    refine (implRanks_cap_c _ _ l (by omega) HZ.out _ (Sq.of_row HR1.out)).mono ?_
    rintro e w2 ⟨a2, c2, rfl, hcap, hans, hb⟩
    have HR2 : Hid (Row w2 b (flatAc l)) := HR1.out.below hb
    have HB2 : Hid (Below w.heap.size w w2) := below_then HB1.out hb
    have HS2 : Hid (Sq w2 a2 (ints (rkL l))) := hans.sq.2
    clear hans hb HR1 HB1
    go_wp2_with fail
    refine (specRanks_c _ _ l (by omega) HZ.out _ (Sq.of_row HR2.out)).mono ?_
    rintro e w3 ⟨v, rfl, hans, hb⟩
    have HR3 : Hid (Row w3 b (flatAc l)) := HR2.out.below hb
    have HB3 : Hid (Below w.heap.size w w3) := below_then HB2.out hb
    have HS3 : Hid (Sq w3 a2 (ints (rkL l))) := HS2.out.below hb
    obtain ⟨a3, c3, rfl⟩ := hans.form
    clear hans hb HR2 HB2 HS2
    rw [ints_len]
    obtain ⟨N, hN⟩ : ∃ N, (rkL l).length = N := ⟨_, rfl⟩
    rw [hN] at hcap
    have HN : Hid ((rkL l).length = N) := hN
    have HY : Hid (0 < N → AOk l ∧ N = l.length) := fun h0 => by
      by_cases hk : AOk l
      · exact ⟨hk, by rw [← hN, rkL_len hk]⟩
      · rw [rkL_no hk] at hN; simp at hN; omega
    rw [hN]
    have hN5 : N ≤ 1048576 := by rw [← hN]; exact lenRanks (by omega)
    clear hN
    go_wp2_with fail
    go_loopw [22] (fun i wr => ∃ j : Nat, j ≤ N ∧ i = .int .i64 j ∧ Below w3.heap.size w3 wr) (fun i _ => N - (intOf i).toNat)
    case atStart => exact ⟨0, Nat.zero_le _, rfl, Below.refl _ _⟩
    case round =>
      obtain ⟨j, hj, rfl, hb⟩ := hrel
      have HB : Hid (Below w3.heap.size w3 wr) := hb
      clear hb
      by_cases hlt : j < N
      · have hj0 : (0 : Int) ≤ (j : Int) := by omega
        have hj1 : (j : Int) < (N : Int) := by omega
        have HOk : Hid (AOk l) := (HY.out (by omega)).1
        have hNl : N = l.length := (HY.out (by omega)).2
        have hjl : j < l.length := by omega
        have hj2 : (j : Int) < (l.length : Int) := by omega
        have HX : Hid (l[j]? = some l[j]) := List.getElem?_eq_getElem hjl
        have HK : Hid ((rkL l)[j]? = some (rkOf l l[j] : Int)) := rkL_at HOk.out hjl
        have HP : Hid (rpI l l[j].nm 999 = 999 - (rkOf l l[j] : Int)) := rp_at HOk.out hjl
        have HNw : Hid (decide ((rkOf l l[j] : Int) ∈ (rkL l).take j) = false) := by
          show _ = _
          rw [decide_eq_false_iff_not]
          intro hm
          obtain ⟨q, hq⟩ := List.getElem?_of_mem hm
          rw [List.getElem?_take] at hq
          split at hq
          · exact rk_new HOk.out hjl q _ (by assumption) hq rfl
          · cases hq
        have hk1 := rk_lt hjl
        generalize l[j] = x at HX HK HP HNw hk1
        generalize rkOf l x = m at HK HP HNw hk1
        have hm0 : (0 : Int) ≤ (m : Int) := by omega
        have hm1 : (m : Int) < (N : Int) := by omega
        have hm2 : (m : Int) ≤ 12 := by have := HOk.out.1; omega
        have hg0 : ¬ (m : Int) < 0 := by omega
        have hg1 : ¬ (N : Int) ≤ (m : Int) := by omega
        have hjc : (j : Int) ≤ (c2 : Int) := by omega
        have HI : Hid ((ints (rkL l))[j]? = some (.int .i64 (m : Int))) := by
          show _ = _
          rw [ints_get, HK.out]
          rfl
        obtain ⟨p, rfl, _, c0⟩ := (HS3.out.below HB.out).cell j _ HI.out
        have x0 := (HR3.out.below HB.out).cell (j * 3) _ ((flatAc_get l j 0 hjl (by decide)).trans (by rw [(List.getElem?_eq_some_iff.1 HX.out).2]; rfl))
        have hc := hasIn_c (some p) c2 ((rkL l).take j) m (by rw [List.length_take]; omega) wr (sq_take (HS3.out.below HB.out) j)
        rw [List.length_take, HN.out, Nat.min_eq_left (by omega), HNw.out] at hc
        have HH : Hid (Calls Try.prog 15 #[.slice (some p) j c2, .int .i64 m] wr fun e w' => e = .returned (.bool false) ∧ Below wr.heap.size wr w') := hc
        clear hc hk1 hjl hNl
        go_wp2_with fail
        refine HH.out.mono ?_
        rintro e w4 ⟨rfl, hb⟩
        have HB4 : Hid (Below w3.heap.size w3 w4) := below_then HB.out hb
        clear hb c0 x0 HH
        have x0 := (HR3.out.below HB4.out).cell (j * 3) _ ((flatAc_get l j 0 (by omega) (by decide)).trans (by rw [(List.getElem?_eq_some_iff.1 HX.out).2]; rfl))
        go_wp2_with fail
        refine (implRankPrio_c _ _ l (by omega) HZ.out x.nm 999 _ (Sq.of_row (HR3.out.below HB4.out))).mono ?_
        rintro e w5 ⟨rfl, hb⟩
        rw [HP.out]
        have HB5 : Hid (Below w3.heap.size w3 w5) := below_then HB4.out hb
        clear hb x0
        go_wp2_with fail
        go_roundw
        case rel => exact ⟨j + 1, by omega, by go_num, HB5.out⟩
        case measure => simp [intOf]; omega
      · go_wp2_with fail
        go_ret
        exact ⟨rfl, below_then HB3.out HB.out⟩
  · have hi : (1048576 : Int) < (n : Int) := by omega
    clear H hn
    go_enter Try.func3, Try.ntmps3
    go_wp2_with fail
    go_ret
    exact ⟨rfl, Below.refl _ _⟩
end Go.Proofs.Ytpjfampfhofeaaa

namespace Go.Proofs.Ytpjfampfhofeaaa
open Go.ChangeShapes Go.WideShapes Go.ChangeAt Go.RowKit

theorem laidOutAll : laidOutB Try.prog = true := by kernel_rfl
theorem cellsByte : Try.prog.cellsOf 5 = 1 := by kernel_rfl

theorem byte_in {x : Int} (h : (Lit.int .u8 x).wf = true) : 0 ≤ x ∧ x < 256 := by
  have h1 : IntKind.u8.min = 0 := rfl
  have h2 : IntKind.u8.max = 255 := rfl
  simp only [Lit.wf, Bool.and_eq_true, decide_eq_true_eq] at h
  omega

/-- A code that came in: its length, and its bytes where it is no longer than the laws look at. -/
theorem code_opened {H : Type} {enc : TypeId × Value → H} {W : World} {a : Option Addr} {n cap : Nat} {d : DataW H} {p : List MemPlace}
    (h : DataW.Trod enc Try.prog W 0 (fun _ => true) true 22 (.slice a n cap) d p) : n ≤ maxLen ∧ (n ≤ 1048576 → CodeIs W a n) := by
  obtain ⟨fuel, hf⟩ := h
  rcases open_ints Try.underlying22 Try.underlying5 cellsByte hf with ⟨hcs, _⟩ | ⟨b, len, c, zs, hcs, _, hl, hm, hz, _, hcell, hwz⟩
  · simp [Value.cells] at hcs
    obtain ⟨rfl, rfl, rfl⟩ := hcs
    exact ⟨Nat.zero_le _, fun _ => ⟨by omega, fun i hi => by omega⟩⟩
  · simp [Value.cells] at hcs
    obtain ⟨rfl, rfl, rfl⟩ := hcs
    simp only [if_true] at hz
    refine ⟨by omega, fun hn => ⟨hn, fun i hi => ?_⟩⟩
    have hi' : i < zs.length := by omega
    have hc := hcell i hi'
    have hg : zs.getD i 0 = zs[i] := by simp [List.getD, hi']
    have hw := byte_in (hwz zs[i] (List.getElem_mem hi'))
    refine ⟨b, zs[i], rfl, ?_, by rw [hc, hg], hw.1, hw.2⟩
    have := World.block_lt_of_cell? _ _ hc
    rwa [block_add] at this
end Go.Proofs.Ytpjfampfhofeaaa

namespace Go.Proofs.Ytpjfampfhofeaaa
namespace LawFnRanks
open Go.ChangeShapes Go.WideShapes Go.ChangeAt Go.RowKit Go.Joins

theorem own : ownKnob Try.prog.godebug = none := by kernel_rfl

set_option maxRecDepth 100000 in
theorem lifted (os : Os) (started : os.Started) (H : Type) (enc : TypeId × Value → H) :
    ReturnsInHanded {} Try.checked os 3 .any (Rows.fnRanksSpec.pre6 enc Try.prog Try.f3 Rows.fnRanksRow.domain false) (Rows.fnRanksSpec.post enc Try.prog Try.f3 false true false false) := by
  refine returnsInHanded_of_change (C := Try.checked) own started (by kernel_rfl) Try.func3
    (ChangeSpec.witness6 (enc := enc) (C := Try.checked) false ⟨#[], #[.slice none 0 0], []⟩ 8 (by kernel_rfl) (by kernel_rfl) (by kernel_rfl) (by kernel_rfl)) ?_
  intro W base args ds gs before hval0 hW _ _
  have hval : ∀ (j : Nat) t v, Try.f3.params[j]? = some t → args[j]? = some v → Value.okWide Try.prog W .any base t v := hval0
  have hW' := hW
  obtain ⟨p, q, hA0, hV, rfl, _, _⟩ := hW
  have hA : DataW.TrodAll enc Try.prog W 0 (fun _ => true) true Try.f3.params.toList args.toList ds p := hA0
  rw [Try.params3] at hA hval
  obtain ⟨v0, d0, rfl, rfl, h0⟩ := trodAll_one hA
  obtain ⟨rfl, rfl⟩ := trodVars_none hV
  obtain ⟨a, n, cap, rfl⟩ := okWide_slice Try.underlying22 (hval 0 22 v0 rfl rfl)
  clear hA0 hval0
  simp only [List.append_nil] at hW'
  obtain ⟨_, hc⟩ := code_opened h0
  refine (fnRanks_walk a n cap W hc).mono fun e W' ⟨he, hg⟩ => ?_
  subst he
  have hlt : ∀ x ∈ p, x.block < W.heap.size := fun x hx => by simpa using hW'.lt x hx
  have harg := Below.trod laidOutAll (by kernel_rfl) (of_decide_eq_true (by kernel_rfl)) h0 hg hlt
  exact ⟨_, rfl, _, _, _, [], _, [], hW', trodAll_mk1 (shut_bool Try.underlying4 _), trodAll_mk1 harg, rfl, hg.frame _, fun h => by cases h⟩
end LawFnRanks

/-- For every code: the law returns true, and the code reads as it did. -/
theorem fnRanks_holds : Rows.FnRanksSaid :=
  OpenClaim.holds_of_wide 3 Try.f3 rfl rfl rfl rfl rfl rfl rfl ⟨rfl, rfl, rfl, rfl, rfl⟩ rfl rfl rfl rfl rfl (by kernel_rfl) Try.func3 (by kernel_rfl)
    (of_decide_eq_true (by kernel_rfl)) (by unfold Func.isWrapper; rw [if_neg (of_decide_eq_false (by kernel_rfl))]; exact ⟨rfl, rfl⟩)
    (fun os started H enc _ => LawFnRanks.lifted os started H enc)
#print axioms fnRanks_holds
end Go.Proofs.Ytpjfampfhofeaaa
