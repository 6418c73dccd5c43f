/- Answers that are lists of dues: they own their memory; marked and found marked. -/
import Derived.Test.YtdmmjggkdkmeaaaDlA
import Derived.Test.YtdmmjggkdkmeaaaJsB
namespace Go.Proofs.Ytdmmjggkdkmeaaa
open Go.ChangeShapes Go.WideShapes Go.ChangeAt Go.RowKit

/-- A slice of so many jobs in a block from B on and below T (none at all where there is no job). -/
def AnsD (B T : Nat) (w : World) (n : Nat) (xs : List Value) (v : Value) : Prop := xs.length = 2 * n ∧ ∃ a cap, v = .slice a n cap ∧ (n = 0 ∨ ∃ g, a = some ⟨g, 0, none⟩ ∧ B ≤ g ∧ g < T ∧ Row w g xs)

theorem AnsD.of_row {w : World} {g n cap : Nat} {xs : List Value} (hx : xs.length = 2 * n) (h : Row w g xs) {B T : Nat} (hB : B ≤ g) (hT : g < T) : AnsD B T w n xs (.slice (some ⟨g, 0, none⟩) n cap) := ⟨hx, _, cap, rfl, .inr ⟨g, rfl, hB, hT, h⟩⟩
theorem AnsD.none (B T : Nat) (w : World) (a : Option Addr) (cap : Nat) : AnsD B T w 0 [] (.slice a 0 cap) := ⟨rfl, a, cap, rfl, .inl rfl⟩

theorem AnsD.of_owns {w : World} {B n : Nat} {e : TypeId} {v : Value} {xs : List Value} (h : w.ownsRow B e 2 v n xs) : AnsD B w.heap.size w n xs v := by
  obtain ⟨hlen, h⟩ := h
  refine ⟨by omega, ?_⟩
  rcases h with ⟨rfl, rfl⟩ | ⟨g, cap, cur, rfl, hB, hg, hnc, _, hsz, hx⟩
  · exact ⟨_, 0, rfl, .inl rfl⟩
  · have hlt : g < w.heap.size := by
      rcases Nat.lt_or_ge g w.heap.size with h' | h'
      · exact h'
      · rw [Array.getElem?_eq_none h'] at hg; cases hg
    refine ⟨_, cap, rfl, .inr ⟨g, rfl, hB, hlt, fun i u hu => ?_, fun i => ?_, hlt⟩⟩
    · rw [← hx] at hu
      have hi : cur.toList[i]? = some u := by
        rw [List.getElem?_take] at hu
        split at hu
        · exact hu
        · cases hu
      simp only [World.cell?, hg]
      simpa using hi
    · simp [World.frozen?, hg]

theorem AnsD.form {B T : Nat} {w : World} {n : Nat} {xs : List Value} {v : Value} (h : AnsD B T w n xs v) : ∃ a cap, v = .slice a n cap ∧ Sq w a xs := by
  obtain ⟨hx, a, cap, rfl, h⟩ := h
  refine ⟨a, cap, rfl, ?_⟩
  rcases h with rfl | ⟨g, rfl, _, _, hr⟩
  · have : xs = [] := List.length_eq_zero_iff.1 (by omega)
    subst this
    exact ⟨fun i u hu => by simp at hu⟩
  · exact Sq.of_row hr
/-- What keeps its row keeps it. -/
theorem AnsD.keep {B T : Nat} {w w' : World} {n : Nat} {xs : List Value} {v : Value} (h : AnsD B T w n xs v) (hk : ∀ g, B ≤ g → g < T → Row w g xs → Row w' g xs) : AnsD B T w' n xs v := by
  obtain ⟨hx, a, cap, hv, h⟩ := h
  refine ⟨hx, a, cap, hv, ?_⟩
  rcases h with rfl | ⟨g, rfl, hg, hT, hr⟩
  · exact .inl rfl
  · exact .inr ⟨g, rfl, hg, hT, hk g hg hT hr⟩
theorem AnsD.below {B T : Nat} {w w' : World} {n : Nat} {xs : List Value} {v : Value} (h : AnsD B T w n xs v) (hb : Below w.heap.size w w') : AnsD B T w' n xs v := h.keep fun _ _ _ hr => hr.below hb
theorem AnsD.wide {B B' T T' : Nat} {w : World} {n : Nat} {xs : List Value} {v : Value} (h : AnsD B T w n xs v) (hB : B' ≤ B) (hT : T ≤ T') : AnsD B' T' w n xs v := by
  obtain ⟨hx, a, cap, hv, h⟩ := h
  refine ⟨hx, a, cap, hv, ?_⟩
  rcases h with rfl | ⟨g, rfl, hg, hT', hr⟩
  · exact .inl rfl
  · exact .inr ⟨g, rfl, by omega, by omega, hr⟩

theorem UpTo.nextD {ys : List Value} {k j n : Nat} {vs : List Value} (h : UpTo ys k (2 * j)) (hl : ys.length = 2 * n) (hj : j < n) (hv : vs.length = 2) (hvs : ∀ i, i < 2 → vs[i]? = some (.int .i64 ((k + 2 * j + i : Nat) : Int))) : UpTo (putL ys (j * 2) vs) k (2 * (j + 1)) := fun i hi => by
  by_cases e : i < 2 * j
  · rw [putL_out _ _ _ _ (.inl (by omega))]
    exact h i e
  · obtain ⟨q, rfl⟩ : ∃ q, i = j * 2 + q := ⟨i - j * 2, by omega⟩
    rw [putL_in _ _ _ _ (by omega) (by omega), hvs q (by omega)]
    congr 3
    omega
theorem kv_getD (K : Int) (k j i : Nat) (hK : K = ((k + 2 * j : Nat) : Int)) (hi : i < 2) : ([.int .i64 K, .int .i64 (K + 1)] : List Value)[i]? = some (.int .i64 ((k + 2 * j + i : Nat) : Int)) := by
  match i, hi with
  | 0, _ | 1, _ => simp; omega

theorem markDueS_nil (a : Option Addr) (cap k0 : Nat) (w : World) : Calls Try.prog 24 #[.slice a 0 cap, .int .i64 (k0 : Int)] w fun e w' => e = .returned (.int .i64 (k0 : Int)) ∧ w' = w := by
  go_enter Try.func24, Try.ntmps24
  go_wp2_with fail
  go_loopw [1, 5] (fun k i wr => i = .int .i64 0 ∧ k = .int .i64 (k0 : Int) ∧ wr = w) (fun _ _ _ => 0)
  case atStart => exact ⟨rfl, rfl, rfl⟩
  case round =>
    obtain ⟨rfl, rfl, rfl⟩ := hrel
    go_wp2_with fail
    go_ret
    exact ⟨rfl, rfl⟩

set_option maxRecDepth 100000 in
set_option maxHeartbeats 8000000 in
theorem markDueS_c (g cap n k0 : Nat) (xs : List Value) (hx : xs.length = 2 * n) (hl : n ≤ 1048576) (hk : k0 ≤ 4294967296) (w : World) (h : Row w g xs) :
    Calls Try.prog 24 #[.slice (some ⟨g, 0, none⟩) n cap, .int .i64 (k0 : Int)] w fun e w' => e = .returned (.int .i64 ((k0 + 2 * n : Nat) : Int)) ∧ w.grownBy w' (some g) ∧ Row w' g (upFrom k0 (2 * n)) := by
  have H : Hid (Row w g xs) := h
  clear h
  go_enter Try.func24, Try.ntmps24
  go_wp2_with fail
  go_loopw [1, 5] (fun k i wr => ∃ (j : Nat) (ys : List Value), j ≤ n ∧ i = .int .i64 j ∧ k = .int .i64 ((k0 + 2 * j : Nat) : Int) ∧ ys.length = 2 * n ∧ UpTo ys k0 (2 * j) ∧ w.grownBy wr (some g) ∧ Row wr g ys) (fun _ i _ => n - (intOf i).toNat)
  case atStart => exact ⟨0, xs, Nat.zero_le _, rfl, rfl, hx, fun i h => by omega, ⟨rfl, rfl, rfl, Nat.le_refl _, fun _ _ _ => rfl⟩, H.out⟩
  case round =>
    obtain ⟨j, ys, hj, rfl, rfl, hy, hu, hg, hr⟩ := hrel
    have HG : Hid (w.grownBy wr (some g)) := hg
    have HR : Hid (Row wr g ys) := hr
    have HU : Hid (UpTo ys k0 (2 * j)) := hu
    clear hg hr hu
    by_cases hlt : j < n
    · have hi1 : (j : Int) < (n : Int) := by omega
      have hi0 : (0 : Int) ≤ (j : Int) := by omega
      obtain ⟨K, hK⟩ : ∃ K : Int, K = ((k0 + 2 * j : Nat) : Int) := ⟨_, rfl⟩
      rw [← hK]
      have HK : Hid (K = ((k0 + 2 * j : Nat) : Int)) := hK
      have hK0 : 0 ≤ K := by omega
      have hK1 : K ≤ 1000000000000 := by omega
      clear hK
      have HS : Hid (Row (setL wr g (j * 2) [.int .i64 K, .int .i64 (K + 1)]) g (putL ys (j * 2) [.int .i64 K, .int .i64 (K + 1)])) := Row.putL [.int .i64 K, .int .i64 (K + 1)] (j * 2) HR.out (by simp; omega)
      have HGS : Hid (w.grownBy (setL wr g (j * 2) [.int .i64 K, .int .i64 (K + 1)]) (some g)) := grown_setL _ _ HG.out
      have HUS : Hid (UpTo (putL ys (j * 2) [.int .i64 K, .int .i64 (K + 1)]) k0 (2 * (j + 1))) := HU.out.nextD hy hlt rfl (fun i hi => kv_getD K k0 j i HK.out hi)
      have d0 := HR.out.cell (j * 2) _ (List.getElem?_eq_getElem (by omega))
      have f0 := HR.out.free (j * 2)
      generalize ys[j * 2] = y0 at d0
      have d1 := HR.out.cell (j * 2 + 1) _ (List.getElem?_eq_getElem (by omega))
      have f1 := HR.out.free (j * 2 + 1)
      generalize ys[j * 2 + 1] = y1 at d1
      go_wp2_with fail
      exact ⟨⟨j + 1, putL ys (j * 2) [.int .i64 K, .int .i64 (K + 1)], by omega, by go_num, by have := HK.out; congr 1; omega, by rw [putL_len]; exact hy, HUS.out, HGS.out, HS.out⟩, by simp [intOf]; omega⟩
    · obtain rfl : j = n := by omega
      have HE : Hid (ys = upFrom k0 (2 * j)) := HU.out.all hy
      go_wp2_with fail
      go_ret
      exact ⟨rfl, HG.out, by rw [← HE.out]; exact HR.out⟩

theorem mark_ansD {B T k0 n : Nat} {w : World} {xs : List Value} {v : Value} (h : AnsD B T w n xs v) (hl : n ≤ 1048576) (hk : k0 ≤ 4294967296) :
    Calls Try.prog 24 #[v, .int .i64 (k0 : Int)] w fun e w' => e = .returned (.int .i64 ((k0 + 2 * n : Nat) : Int)) ∧ AnsD B T w' n (upFrom k0 (2 * n)) v ∧
      (∀ b ys, Row w b ys → b < B ∨ T ≤ b → Row w' b ys) ∧ (∀ w0 : World, Below w0.heap.size w0 w → w0.heap.size ≤ B → Below w0.heap.size w0 w') := by
  obtain ⟨hx, a, cap, rfl, h⟩ := h
  rcases h with rfl | ⟨g, rfl, hg, hT, hr⟩
  · refine (markDueS_nil a cap k0 w).mono ?_
    rintro e w' ⟨rfl, rfl⟩
    exact ⟨by simp, AnsD.none _ _ _ _ _, fun _ _ h _ => h, fun _ h _ => h⟩
  · refine (markDueS_c g cap n k0 xs hx hl hk w hr).mono ?_
    rintro e w' ⟨rfl, hgr, hr'⟩
    exact ⟨rfl, AnsD.of_row (upFrom_len _ _) hr' hg hT, fun b ys h hb => h.far hgr (by intro e; have := Option.some.inj e; omega), fun w0 hb0 h0 => hb0.grown hgr hb0.size (fun k e => by cases e; omega)⟩

theorem heldDueS_nil (a : Option Addr) (cap k0 : Nat) (w : World) : Calls Try.prog 25 #[.slice a 0 cap, .int .i64 (k0 : Int)] w fun e w' => e = .returned (.int .i64 (k0 : Int)) ∧ Below w.heap.size w w' := by
  go_enter Try.func25, Try.ntmps25
  go_wp2_with fail
  go_loopw [1, 5] (fun k i wr => i = .int .i64 0 ∧ k = .int .i64 (k0 : Int) ∧ wr = w) (fun _ _ _ => 0)
  case atStart => exact ⟨rfl, rfl, rfl⟩
  case round =>
    obtain ⟨rfl, rfl, rfl⟩ := hrel
    go_wp2_with fail
    go_ret
    exact ⟨rfl, Below.refl _ _⟩
end Go.Proofs.Ytdmmjggkdkmeaaa
