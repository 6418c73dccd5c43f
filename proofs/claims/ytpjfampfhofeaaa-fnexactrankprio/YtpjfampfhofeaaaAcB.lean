/- Answers that are lists of accounts: they own their memory; marked. -/
import Derived.Test.YtpjfampfhofeaaaAcA
import Derived.Test.YtpjfampfhofeaaaJsB
import Derived.Test.YtpjfampfhofeaaaSlS
namespace Go.Proofs.Ytpjfampfhofeaaa
open Go.ChangeShapes Go.WideShapes Go.ChangeAt Go.RowKit

/-- A slice of so many jobs in a block from B on and below T (none at all where there is no job). -/
def AnsAc (B T : Nat) (w : World) (n : Nat) (xs : List Value) (v : Value) : Prop := xs.length = 3 * n ∧ ∃ a cap, v = .slice a n cap ∧ (n = 0 ∨ ∃ g, a = some ⟨g, 0, none⟩ ∧ B ≤ g ∧ g < T ∧ Row w g xs)

theorem AnsAc.of_row {w : World} {g n cap : Nat} {xs : List Value} (hx : xs.length = 3 * n) (h : Row w g xs) {B T : Nat} (hB : B ≤ g) (hT : g < T) : AnsAc B T w n xs (.slice (some ⟨g, 0, none⟩) n cap) := ⟨hx, _, cap, rfl, .inr ⟨g, rfl, hB, hT, h⟩⟩
theorem AnsAc.none (B T : Nat) (w : World) (a : Option Addr) (cap : Nat) : AnsAc B T w 0 [] (.slice a 0 cap) := ⟨rfl, a, cap, rfl, .inl rfl⟩

theorem AnsAc.of_owns {w : World} {B n : Nat} {e : TypeId} {v : Value} {xs : List Value} (h : w.ownsRow B e 3 v n xs) : AnsAc B w.heap.size w n xs v := by
  obtain ⟨hlen, h⟩ := h
  refine ⟨by omega, ?_⟩
  rcases h with ⟨rfl, rfl⟩ | ⟨g, cap, cur, rfl, hB, hg, hnc, _, hsz, hx⟩
  · exact ⟨_, 0, rfl, .inl rfl⟩
  · have hlt : g < w.heap.size := by
      rcases Nat.lt_or_ge g w.heap.size with h' | h'
      · exact h'
      · rw [Array.getElem?_eq_none h'] at hg; cases hg
    refine ⟨_, cap, rfl, .inr ⟨g, rfl, hB, hlt, fun i u hu => ?_, fun i => ?_, hlt⟩⟩
    · rw [← hx] at hu
      have hi : cur.toList[i]? = some u := by
        rw [List.getElem?_take] at hu
        split at hu
        · exact hu
        · cases hu
      simp only [World.cell?, hg]
      simpa using hi
    · simp [World.frozen?, hg]

theorem AnsAc.form {B T : Nat} {w : World} {n : Nat} {xs : List Value} {v : Value} (h : AnsAc B T w n xs v) : ∃ a cap, v = .slice a n cap ∧ Sq w a xs := by
  obtain ⟨hx, a, cap, rfl, h⟩ := h
  refine ⟨a, cap, rfl, ?_⟩
  rcases h with rfl | ⟨g, rfl, _, _, hr⟩
  · have : xs = [] := List.length_eq_zero_iff.1 (by omega)
    subst this
    exact ⟨fun i u hu => by simp at hu⟩
  · exact Sq.of_row hr
/-- What keeps its row keeps it. -/
theorem AnsAc.keep {B T : Nat} {w w' : World} {n : Nat} {xs : List Value} {v : Value} (h : AnsAc B T w n xs v) (hk : ∀ g, B ≤ g → g < T → Row w g xs → Row w' g xs) : AnsAc B T w' n xs v := by
  obtain ⟨hx, a, cap, hv, h⟩ := h
  refine ⟨hx, a, cap, hv, ?_⟩
  rcases h with rfl | ⟨g, rfl, hg, hT, hr⟩
  · exact .inl rfl
  · exact .inr ⟨g, rfl, hg, hT, hk g hg hT hr⟩
theorem AnsAc.below {B T : Nat} {w w' : World} {n : Nat} {xs : List Value} {v : Value} (h : AnsAc B T w n xs v) (hb : Below w.heap.size w w') : AnsAc B T w' n xs v := h.keep fun _ _ _ hr => hr.below hb
theorem AnsAc.wide {B B' T T' : Nat} {w : World} {n : Nat} {xs : List Value} {v : Value} (h : AnsAc B T w n xs v) (hB : B' ≤ B) (hT : T ≤ T') : AnsAc B' T' w n xs v := by
  obtain ⟨hx, a, cap, hv, h⟩ := h
  refine ⟨hx, a, cap, hv, ?_⟩
  rcases h with rfl | ⟨g, rfl, hg, hT', hr⟩
  · exact .inl rfl
  · exact .inr ⟨g, rfl, by omega, by omega, hr⟩

/-- One that is marked from k on. -/
def mkAc (k : Nat) : List Value := [.string ⟨(mkL (k + 0)).toArray⟩, .int .i64 ((k + 1 : Nat) : Int), .int .i64 ((k + 2 : Nat) : Int)]
/-- So many that are marked from k on. -/
def upAc (k n : Nat) : List Value := (List.range n).flatMap fun j => mkAc (k + 3 * j)
theorem upAc_len (k n : Nat) : (upAc k n).length = 3 * n := by
  induction n with
  | zero => rfl
  | succ n ih => rw [upAc, List.range_succ, List.flatMap_append, List.length_append]; simp only [upAc] at ih; rw [ih]; simp [mkAc]; omega
theorem upAc_get (k : Nat) : ∀ (n j q : Nat), j < n → q < 3 → (upAc k n)[j * 3 + q]? = (mkAc (k + 3 * j))[q]?
  | 0, j, q, h, _ => by omega
  | n + 1, j, q, h, hq => by
    have hl := upAc_len k n
    rw [upAc, List.range_succ, List.flatMap_append]
    change (upAc k n ++ _)[j * 3 + q]? = _
    by_cases e : j = n
    · subst e
      rw [List.getElem?_append_right (by omega), hl]
      simp only [List.flatMap_cons, List.flatMap_nil, List.append_nil]
      congr 1
      omega
    · rw [List.getElem?_append_left (by omega)]
      exact upAc_get k n j q (by omega) hq
/-- The first j are marked. -/
def UpToAc (ys : List Value) (k j : Nat) : Prop := ∀ i q, i < j → q < 3 → ys[i * 3 + q]? = (mkAc (k + 3 * i))[q]?
theorem UpToAc.next {ys : List Value} {k j n : Nat} (h : UpToAc ys k j) (hl : ys.length = 3 * n) (hj : j < n) : UpToAc (putL ys (j * 3) (mkAc (k + 3 * j))) k (j + 1) := fun i q hi hq => by
  have hm : (mkAc (k + 3 * j)).length = 3 := rfl
  by_cases e : i = j
  · subst e
    exact putL_in _ _ _ _ (by rw [hm]; omega) (by rw [hm]; exact hq)
  · rw [putL_out _ _ _ _ (.inl (by omega))]
    exact h i q (by omega) hq
theorem UpToAc.all {ys : List Value} {k n : Nat} (h : UpToAc ys k n) (hl : ys.length = 3 * n) : ys = upAc k n := by
  apply List.ext_getElem?
  intro m
  by_cases hm : m < 3 * n
  · have h1 := h (m / 3) (m % 3) (by omega) (by omega)
    have h2 := upAc_get k n (m / 3) (m % 3) (by omega) (by omega)
    rw [show m / 3 * 3 + m % 3 = m by omega] at h1 h2
    rw [h1, h2]
  · rw [List.getElem?_eq_none (by omega), List.getElem?_eq_none (by rw [upAc_len]; omega)]
theorem markAccountS_nil (a : Option Addr) (cap k0 : Nat) (w : World) : Calls Try.prog 30 #[.slice a 0 cap, .int .i64 (k0 : Int)] w fun e w' => e = .returned (.int .i64 (k0 : Int)) ∧ w' = w := by
  go_enter Try.func30, Try.ntmps30
  go_wp2_with fail
  go_loopw [1, 5] (fun k i wr => i = .int .i64 0 ∧ k = .int .i64 (k0 : Int) ∧ wr = w) (fun _ _ _ => 0)
  case atStart => exact ⟨rfl, rfl, rfl⟩
  case round =>
    obtain ⟨rfl, rfl, rfl⟩ := hrel
    go_wp2_with fail
    go_ret
    exact ⟨rfl, rfl⟩

set_option maxRecDepth 100000 in
set_option maxHeartbeats 8000000 in
theorem markAccountS_c (g cap n k0 : Nat) (xs : List Value) (hx : xs.length = 3 * n) (hl : n ≤ 1048576) (hk1 : 1 ≤ k0) (hk : k0 ≤ 1000000000) (w : World) (h : Row w g xs) :
    Calls Try.prog 30 #[.slice (some ⟨g, 0, none⟩) n cap, .int .i64 (k0 : Int)] w fun e w' => e = .returned (.int .i64 ((k0 + 3 * n : Nat) : Int)) ∧ w.grownBy w' (some g) ∧ Row w' g (upAc k0 n) := by
  have H : Hid (Row w g xs) := h
  clear h
  go_enter Try.func30, Try.ntmps30
  go_wp2_with fail
  go_loopw [1, 5] (fun k i wr => ∃ (j : Nat) (ys : List Value), j ≤ n ∧ i = .int .i64 j ∧ k = .int .i64 ((k0 + 3 * j : Nat) : Int) ∧ ys.length = 3 * n ∧ UpToAc ys k0 j ∧ w.grownBy wr (some g) ∧ Row wr g ys) (fun _ i _ => n - (intOf i).toNat)
  case atStart => exact ⟨0, xs, Nat.zero_le _, rfl, rfl, hx, fun i q h => by omega, ⟨rfl, rfl, rfl, Nat.le_refl _, fun _ _ _ => rfl⟩, H.out⟩
  case round =>
    obtain ⟨j, ys, hj, rfl, rfl, hy, hu, hg, hr⟩ := hrel
    have HG : Hid (w.grownBy wr (some g)) := hg
    have HR : Hid (Row wr g ys) := hr
    have HU : Hid (UpToAc ys k0 j) := hu
    clear hg hr hu
    by_cases hlt : j < n
    · have hi1 : (j : Int) < (n : Int) := by omega
      have hi0 : (0 : Int) ≤ (j : Int) := by omega
      obtain ⟨K, hK⟩ : ∃ K : Int, K = ((k0 + 3 * j : Nat) : Int) := ⟨_, rfl⟩
      rw [← hK]
      have HK : Hid (K = ((k0 + 3 * j : Nat) : Int)) := hK
      have hK0 : 0 ≤ K := by omega
      have hK1 : K ≤ 1000000000000 := by omega
      have HM0 : Hid (∀ W : World, Calls Try.prog 59 #[.int .i64 K] W fun e w' => e = .returned (.string ⟨(mkL (k0 + 3 * j + 0)).toArray⟩) ∧ Below W.heap.size W w') := fun W => by
        have h := markText_c (k0 + 3 * j + 0) (by omega) (by omega) W
        rwa [show ((k0 + 3 * j + 0 : Nat) : Int) = K by omega] at h
      have HUS : Hid (UpToAc (putL ys (j * 3) [.string ⟨(mkL (k0 + 3 * j + 0)).toArray⟩, .int .i64 (K + 1), .int .i64 (K + 1 + 1)]) k0 (j + 1)) := by
        have h := HU.out.next hy hlt
        have e : mkAc (k0 + 3 * j) = [.string ⟨(mkL (k0 + 3 * j + 0)).toArray⟩, .int .i64 (K + 1), .int .i64 (K + 1 + 1)] := by
          unfold mkAc
          rw [HK.out]
          simp <;> omega
        rwa [e] at h
      clear hK
      go_wp2_with fail
      refine (HM0.out _).mono ?_
      rintro e w1 ⟨rfl, hb⟩
      have HR1 : Hid (Row w1 g ys) := HR.out.below hb
      have HG1 : Hid (w.grownBy w1 (some g)) := Lib.grownBy_trans HG.out ⟨hb.os, hb.tape, hb.output, hb.size, fun k hk _ => hb.block k hk⟩
      clear hb 
      have d0 := HR1.out.cell (j * 3) _ (List.getElem?_eq_getElem (by omega))
      have f0 := HR1.out.free (j * 3)
      generalize ys[j * 3] = y0 at d0
      have d1 := HR1.out.cell (j * 3 + 1) _ (List.getElem?_eq_getElem (by omega))
      have f1 := HR1.out.free (j * 3 + 1)
      generalize ys[j * 3 + 1] = y1 at d1
      have d2 := HR1.out.cell (j * 3 + 2) _ (List.getElem?_eq_getElem (by omega))
      have f2 := HR1.out.free (j * 3 + 2)
      generalize ys[j * 3 + 2] = y2 at d2
      have HS0 : Hid (Row (setL w1 g (j * 3) [.string ⟨(mkL (k0 + 3 * j + 0)).toArray⟩, .int .i64 (K + 1), .int .i64 (K + 1 + 1)]) g (Go.Proofs.Ytpjfampfhofeaaa.putL ys (j * 3) [.string ⟨(mkL (k0 + 3 * j + 0)).toArray⟩, .int .i64 (K + 1), .int .i64 (K + 1 + 1)])) := Row.putL [.string ⟨(mkL (k0 + 3 * j + 0)).toArray⟩, .int .i64 (K + 1), .int .i64 (K + 1 + 1)] (j * 3) HR1.out (by simp; omega)
      have HT0 : Hid (w.grownBy (setL w1 g (j * 3) [.string ⟨(mkL (k0 + 3 * j + 0)).toArray⟩, .int .i64 (K + 1), .int .i64 (K + 1 + 1)]) (some g)) := grown_setL _ _ HG1.out
      go_wp2_with fail
      exact ⟨⟨j + 1, putL ys (j * 3) [.string ⟨(mkL (k0 + 3 * j + 0)).toArray⟩, .int .i64 (K + 1), .int .i64 (K + 1 + 1)], by omega, by go_num, by have := HK.out; congr 1; omega, by rw [putL_len]; exact hy, HUS.out, HT0.out, HS0.out⟩, by simp [intOf]; omega⟩
    · obtain rfl : j = n := by omega
      have HE : Hid (ys = upAc k0 j) := HU.out.all hy
      go_wp2_with fail
      go_ret
      exact ⟨rfl, HG.out, by rw [← HE.out]; exact HR.out⟩

theorem mark_ansAc {B T k0 n : Nat} {w : World} {xs : List Value} {v : Value} (h : AnsAc B T w n xs v) (hl : n ≤ 1048576) (hk1 : 1 ≤ k0) (hk : k0 ≤ 1000000000) :
    Calls Try.prog 30 #[v, .int .i64 (k0 : Int)] w fun e w' => e = .returned (.int .i64 ((k0 + 3 * n : Nat) : Int)) ∧ AnsAc B T w' n (upAc k0 n) v ∧
      (∀ b ys, Row w b ys → b < B ∨ T ≤ b → Row w' b ys) ∧ (∀ w0 : World, Below w0.heap.size w0 w → w0.heap.size ≤ B → Below w0.heap.size w0 w') := by
  obtain ⟨hx, a, cap, rfl, h⟩ := h
  rcases h with rfl | ⟨g, rfl, hg, hT, hr⟩
  · refine (markAccountS_nil a cap k0 w).mono ?_
    rintro e w' ⟨rfl, rfl⟩
    exact ⟨by simp, AnsAc.none _ _ _ _ _, fun _ _ h _ => h, fun _ h _ => h⟩
  · refine (markAccountS_c g cap n k0 xs hx hl hk1 hk w hr).mono ?_
    rintro e w' ⟨rfl, hgr, hr'⟩
    exact ⟨rfl, AnsAc.of_row (upAc_len _ _) hr' hg hT, fun b ys h hb => h.far hgr (by intro e; have := Option.some.inj e; omega), fun w0 hb0 h0 => hb0.grown hgr hb0.size (fun k e => by cases e; omega)⟩
end Go.Proofs.Ytpjfampfhofeaaa
