/- A command read of a text: the program's. -/
import Derived.Test.YtejleghdgdbbnaaGreatDoorTcC
import Derived.Test.YtejleghdgdbbnaaGreatDoorMgUc
namespace Go.Proofs.YtejleghdgdbbnaaGreatDoor
open Go.ChangeShapes Go.WideShapes Go.ChangeAt Go.RowKit

theorem readCmd_c (g cap : Nat) (P : List (List UInt8)) (hne : P ≠ []) (hl : ∀ x ∈ P, x.length ≤ 1048576) (hcap : P.length ≤ cap) (w : World) (h : Row w g (strs P)) (hk : KwT w) (env : Env w) :
    Calls Tryz.prog 60 #[.slice (some ⟨g, 0, none⟩) P.length cap] w fun e w' => e = .returned (.agg (rdC P).cells.toArray) ∧ Below w.heap.size w w' := by
  cases P with
  | nil => exact absurd rfl hne
  | cons x0 r =>
    by_cases h8 : r.length = 7 ∧ kdN x0 = 1
    · match r, h8.1 with
      | [x1, x2, x3, x4, x5, x6, x7], _ =>
        have e : rdC [x0, x1, x2, x3, x4, x5, x6, x7] = ⟨1, jrd x1 x2 x3 x4 x5 x6 x7, 0, 0, 0, 0⟩ := by unfold rdC; rw [if_pos ⟨rfl, h8.2⟩]; rfl
        rw [e]
        exact readCmd_j g cap x0 x1 x2 x3 x4 x5 x6 x7 h8.2 hl hcap w h hk env
    · by_cases h2 : r.length = 1
      · match r, h2 with
        | [x1], _ =>
          by_cases h6 : kdN x0 = 6
          · have e : rdC [x0, x1] = ⟨6, jb0, 0, (tvR x1).1.1, (tvR x1).1.2.1, (tvR x1).1.2.2⟩ := by unfold rdC; rw [if_neg (fun t => by have := t.1; simp at this), if_pos ⟨rfl, h6⟩]; rfl
            rw [e]
            exact readCmd_l g cap x0 x1 h6 (hl x1 (by simp)) w h hk env
          · have e : rdC [x0, x1] = ⟨kdN x0, jb0, (tnR x1).1, 0, 0, 0⟩ := by unfold rdC; rw [if_neg (fun t => by have := t.1; simp at this), if_neg (fun t => h6 t.2), if_pos (show [x0, x1].length = 2 from rfl)]; rfl
            rw [e]
            exact readCmd_n g cap x0 x1 h6 (hl x1 (by simp)) w h hk env
      · have e : rdC (x0 :: r) = ⟨kdN x0, jb0, 0, 0, 0, 0⟩ := by
          unfold rdC
          rw [if_neg (fun t => h8 ⟨by have := t.1; simp at this; exact this, t.2⟩), if_neg (fun t => h2 (by have := t.1; simp at this; simp [this])), if_neg (fun t => h2 (by simp at t; simp [t]))]
          rfl
        rw [e]
        exact readCmd_d g cap x0 r h2 h8 w h hk

set_option maxHeartbeats 2000000 in
theorem implParts_cap (s : ByteArray) (b : UInt8) (hs : s.size ≤ 1048576) (w : World) (hm : MaxL w) :
    Calls Tryz.prog 61 #[.string s, .int .u8 (b.toNat : Int)] w fun e w' =>
      ∃ g cap, e = .returned (.slice (some ⟨g, 0, none⟩) (pcs b s.data.toList).length cap) ∧ (pcs b s.data.toList).length ≤ cap ∧ Row w' g (strs (pcs b s.data.toList)) ∧ Below w.heap.size w w' := by
  have Hm : Hid (MaxL w) := hm
  have hcv : (convert 22 9 (.slice (some ⟨w.heap.size, 0, none⟩) 1 1)).run Tryz.prog (w.alloc (.cells #[.int .u8 (b.toNat : Int)] 5)) = .ok (.string ⟨#[b]⟩) (w.alloc (.cells #[.int .u8 (b.toNat : Int)] 5)) := by
    have := conv_one w.heap.size (b.toNat : Int) (w.alloc (.cells #[.int .u8 (b.toNat : Int)] 5)) (by simp) (by omega) (by have := b.toNat_lt; omega)
    rw [this]
    simp
  clear hm
  have hcnt : (pcs b s.data.toList).length ≤ s.size + 1 := pcs_count b s.data.toList
  have HP : Hid (∀ p, p ∈ pcs b s.data.toList → p.length ≤ s.size) := fun p hp => pcs_size b s.data.toList p hp
  go_enter Tryz.func61, Tryz.ntmps61
  go_wp2_with fail
  refine (split_c s b hs _ (Hm.out.on (by go_grown))).mono ?_
  rintro e V ⟨rfl, hrow, hbv⟩
  have HB : Hid (Below w.heap.size w V) := below_then (by go_grown) hbv
  have HR : Hid (Row V (w.heap.size + 1) (strs (pcs b s.data.toList))) := by
    show Row _ _ _
    simpa using hrow
  clear hrow hbv
  generalize hP : pcs b s.data.toList = P at *
  have HQ : Hid (pcs b s.data.toList = P) := hP
  clear hP hcv
  go_wp2_with fail
  go_loopw [15] (fun i wr => ∃ j : Nat, j ≤ P.length ∧ i = .int .i64 j ∧ Row wr (w.heap.size + 1) (strs P) ∧ Below w.heap.size w wr) (fun i _ => P.length - (intOf i).toNat)
  case atStart => exact ⟨0, Nat.zero_le _, rfl, HR.out, HB.out⟩
  case round =>
    obtain ⟨j, hj, rfl, hr, hb⟩ := hrel
    have HR1 : Hid (Row wr (w.heap.size + 1) (strs P)) := hr
    have HB1 : Hid (Below w.heap.size w wr) := hb
    clear hr hb HR HB
    by_cases hlt : j < P.length
    · have hi0 : (0 : Int) ≤ (j : Int) := by omega
      have hi1 : (j : Int) < (P.length : Int) := by omega
      have Hu : Hid ((strs P)[j]? = some (.string ⟨P[j].toArray⟩)) := by show _ = _; rw [strs_get, List.getElem?_eq_getElem hlt]; rfl
      have hc : wr.cell? ⟨w.heap.size + 1, j, none⟩ = some (.string ⟨P[j].toArray⟩) := HR1.out.cell j _ Hu.out
      have hsz : (⟨P[j].toArray⟩ : ByteArray).size ≤ 281474976710656 := by
        have := HP.out P[j] (List.getElem_mem hlt)
        have e : (⟨P[j].toArray⟩ : ByteArray).size = P[j].length := by simp [ByteArray.size]
        omega
      go_wp2_with fail
      refine (clone_c _ hsz _).mono ?_
      rintro e w1 ⟨rfl, hb1⟩
      have HR2 : Hid (Row w1 (w.heap.size + 1) (strs P)) := HR1.out.below hb1
      have HB2 : Hid (Below w.heap.size w w1) := below_then HB1.out hb1
      have hc1 : w1.cell? ⟨w.heap.size + 1, j, none⟩ = some (.string ⟨P[j].toArray⟩) := HR2.out.cell j _ Hu.out
      have hf1 : w1.frozen? ⟨w.heap.size + 1, j, none⟩ = false := HR2.out.free j
      have HR3 : Hid (Row (w1.setCell ⟨w.heap.size + 1, j, none⟩ (.string ⟨P[j].toArray⟩)) (w.heap.size + 1) (strs P)) := by
        have := HR2.out.set j (by rw [strs_length]; exact hlt) (.string ⟨P[j].toArray⟩)
        rw [set_same Hu.out] at this
        exact this
      clear hb1 hc hsz HR1 HB1
      go_wp2_with fail
      go_roundw
      case rel => exact ⟨j + 1, by omega, by go_num, HR3.out, HB2.out.setCell (by simp) _⟩
      case measure => simp [intOf]; omega
    · go_wp2_with fail
      go_ret
      exact ⟨w.heap.size + 1, P.length, by rw [HQ.out]; rfl, by rw [HQ.out]; exact Nat.le_refl _, by rw [HQ.out]; exact HR1.out, HB1.out⟩

def cm0 : Cm := ⟨0, jb0, 0, 0, 0, 0⟩
/-- The command whose text a text is. -/
def tcR (l : List UInt8) : Cm × Bool := if cmdB (rdC (pcs 32 l)).s (rdC (pcs 32 l)).j (rdC (pcs 32 l)).n (rdC (pcs 32 l)).a (rdC (pcs 32 l)).b (rdC (pcs 32 l)).c = true ∧ ctL (rdC (pcs 32 l)).s (rdC (pcs 32 l)).j (rdC (pcs 32 l)).n (rdC (pcs 32 l)).a (rdC (pcs 32 l)).b (rdC (pcs 32 l)).c = l then (rdC (pcs 32 l), true) else (cm0, false)

set_option maxHeartbeats 4000000 in
set_option maxRecDepth 100000 in
theorem implTextCmd_no (s : ByteArray) (hs : s.size ≤ 1048576) (w : World) (hk : KwT w) (env : Env w) (x : Cm) (hx : rdC (pcs 32 s.data.toList) = x) (hok : cmdB x.s x.j x.n x.a x.b x.c = false) : Calls Tryz.prog 38 #[.string s] w fun e w' => e = .returned (.tuple #[.agg #[.int .i64 0, .int .i64 0, .int .i64 0, .int .i64 0, .int .i64 0, .int .i64 0, .int .i64 0, .int .i64 0, .int .i64 0, .int .i64 0, .int .i64 0, .int .i64 0, .int .i64 0, .int .i64 0, .int .i64 0, .int .i64 0], .bool false]) ∧ Below w.heap.size w w' := by
  have HK : Hid (KwT w) := hk
  have HE : Hid (Env w) := env
  have HP : Hid (pcs 32 s.data.toList ≠ []) := pcs_ne _ _
  have HPl : Hid (∀ p, p ∈ pcs 32 s.data.toList → p.length ≤ 1048576) := fun p hp => Nat.le_trans (pcs_size 32 s.data.toList p hp) hs
  have CP := fun W (hW : MaxL W) => implParts_cap s 32 hs W hW
  have CR2 : ∀ (g cap : Nat) (W : World), (pcs 32 s.data.toList).length ≤ cap → Row W g (strs (pcs 32 s.data.toList)) → KwT W → Env W → Calls Tryz.prog 60 #[.slice (some ⟨g, 0, none⟩) (pcs 32 s.data.toList).length cap] W fun e w' => e = .returned (.agg #[.int .i64 x.s, .int .i64 x.j.id, .int .i64 x.j.pr, .int .i64 x.j.nd, .int .i64 x.j.na, .int .i64 x.j.nb, .int .i64 x.j.nc, .int .i64 x.j.la, .int .i64 x.j.lb, .int .i64 x.j.lc, .int .i64 x.j.wl, .int .i64 x.j.lv, .int .i64 x.n, .int .i64 x.a, .int .i64 x.b, .int .i64 x.c]) ∧ Below W.heap.size W w' := fun g cap W hc h hk env => by
    have := readCmd_c g cap (pcs 32 s.data.toList) HP.out HPl.out hc W h hk env
    rw [hx] at this
    exact this
  clear HP HPl hk env hx
  generalize pcs 32 s.data.toList = P at CP CR2
  have HC : Hid (∀ W : World, Calls Tryz.prog 28 #[.agg #[.int .i64 x.s, .int .i64 x.j.id, .int .i64 x.j.pr, .int .i64 x.j.nd, .int .i64 x.j.na, .int .i64 x.j.nb, .int .i64 x.j.nc, .int .i64 x.j.la, .int .i64 x.j.lb, .int .i64 x.j.lc, .int .i64 x.j.wl, .int .i64 x.j.lv, .int .i64 x.n, .int .i64 x.a, .int .i64 x.b, .int .i64 x.c]] W fun e w' => e = .returned (.bool false) ∧ Below W.heap.size W w') := fun W => by have := implCmdOk_c x.s x.j x.n x.a x.b x.c W; rw [hok] at this; exact this
  clear hok
  go_enter Tryz.func38, Tryz.ntmps38
  go_wp2_with fail
  have HR : Hid (Row (w.alloc (.cells #[.int .i64 0, .int .i64 0, .int .i64 0, .int .i64 0, .int .i64 0, .int .i64 0, .int .i64 0, .int .i64 0, .int .i64 0, .int .i64 0, .int .i64 0, .int .i64 0, .int .i64 0, .int .i64 0, .int .i64 0, .int .i64 0] 28)) w.heap.size [.int .i64 0, .int .i64 0, .int .i64 0, .int .i64 0, .int .i64 0, .int .i64 0, .int .i64 0, .int .i64 0, .int .i64 0, .int .i64 0, .int .i64 0, .int .i64 0, .int .i64 0, .int .i64 0, .int .i64 0, .int .i64 0]) := row_fresh w [.int .i64 0, .int .i64 0, .int .i64 0, .int .i64 0, .int .i64 0, .int .i64 0, .int .i64 0, .int .i64 0, .int .i64 0, .int .i64 0, .int .i64 0, .int .i64 0, .int .i64 0, .int .i64 0, .int .i64 0, .int .i64 0] 28
  have HB : Hid (Below w.heap.size w (w.alloc (.cells #[.int .i64 0, .int .i64 0, .int .i64 0, .int .i64 0, .int .i64 0, .int .i64 0, .int .i64 0, .int .i64 0, .int .i64 0, .int .i64 0, .int .i64 0, .int .i64 0, .int .i64 0, .int .i64 0, .int .i64 0, .int .i64 0] 28))) := low_alloc _ _
  generalize w.alloc (.cells #[.int .i64 0, .int .i64 0, .int .i64 0, .int .i64 0, .int .i64 0, .int .i64 0, .int .i64 0, .int .i64 0, .int .i64 0, .int .i64 0, .int .i64 0, .int .i64 0, .int .i64 0, .int .i64 0, .int .i64 0, .int .i64 0] 28) = u0 at HR HB ⊢
  refine (CP _ (HE.out.on HB.out).2.2).mono ?_
  rintro e w1 ⟨g, cap, rfl, hcap, hr, hb⟩
  replace HR : Hid (Row w1 w.heap.size [.int .i64 0, .int .i64 0, .int .i64 0, .int .i64 0, .int .i64 0, .int .i64 0, .int .i64 0, .int .i64 0, .int .i64 0, .int .i64 0, .int .i64 0, .int .i64 0, .int .i64 0, .int .i64 0, .int .i64 0, .int .i64 0]) := HR.out.below hb
  replace HB : Hid (Below w.heap.size w w1) := below_then HB.out hb
  have HR1 : Hid (Row w1 g (strs P)) := hr
  have HCap : Hid (P.length ≤ cap) := hcap
  clear hr hb CP hcap
  go_wp2_with fail
  refine (CR2 g cap _ HCap.out HR1.out (HK.out.on HB.out) (HE.out.on HB.out)).mono ?_
  rintro e w2 ⟨rfl, hb⟩
  replace HR : Hid (Row w2 w.heap.size [.int .i64 0, .int .i64 0, .int .i64 0, .int .i64 0, .int .i64 0, .int .i64 0, .int .i64 0, .int .i64 0, .int .i64 0, .int .i64 0, .int .i64 0, .int .i64 0, .int .i64 0, .int .i64 0, .int .i64 0, .int .i64 0]) := HR.out.below hb
  replace HB : Hid (Below w.heap.size w w2) := below_then HB.out hb
  clear hb CR2 HR1 HCap
  go_wp2_with (refine stay_load 28 ?_)
  refine ⟨?_⟩
  have HJ : Hid (Row (w2.alloc (.cells #[.int .i64 x.s, .int .i64 x.j.id, .int .i64 x.j.pr, .int .i64 x.j.nd, .int .i64 x.j.na, .int .i64 x.j.nb, .int .i64 x.j.nc, .int .i64 x.j.la, .int .i64 x.j.lb, .int .i64 x.j.lc, .int .i64 x.j.wl, .int .i64 x.j.lv, .int .i64 x.n, .int .i64 x.a, .int .i64 x.b, .int .i64 x.c] 28)) w2.heap.size [.int .i64 x.s, .int .i64 x.j.id, .int .i64 x.j.pr, .int .i64 x.j.nd, .int .i64 x.j.na, .int .i64 x.j.nb, .int .i64 x.j.nc, .int .i64 x.j.la, .int .i64 x.j.lb, .int .i64 x.j.lc, .int .i64 x.j.wl, .int .i64 x.j.lv, .int .i64 x.n, .int .i64 x.a, .int .i64 x.b, .int .i64 x.c]) := row_fresh w2 [.int .i64 x.s, .int .i64 x.j.id, .int .i64 x.j.pr, .int .i64 x.j.nd, .int .i64 x.j.na, .int .i64 x.j.nb, .int .i64 x.j.nc, .int .i64 x.j.la, .int .i64 x.j.lb, .int .i64 x.j.lc, .int .i64 x.j.wl, .int .i64 x.j.lv, .int .i64 x.n, .int .i64 x.a, .int .i64 x.b, .int .i64 x.c] 28
  replace HR : Hid (Row (w2.alloc (.cells #[.int .i64 x.s, .int .i64 x.j.id, .int .i64 x.j.pr, .int .i64 x.j.nd, .int .i64 x.j.na, .int .i64 x.j.nb, .int .i64 x.j.nc, .int .i64 x.j.la, .int .i64 x.j.lb, .int .i64 x.j.lc, .int .i64 x.j.wl, .int .i64 x.j.lv, .int .i64 x.n, .int .i64 x.a, .int .i64 x.b, .int .i64 x.c] 28)) w.heap.size [.int .i64 0, .int .i64 0, .int .i64 0, .int .i64 0, .int .i64 0, .int .i64 0, .int .i64 0, .int .i64 0, .int .i64 0, .int .i64 0, .int .i64 0, .int .i64 0, .int .i64 0, .int .i64 0, .int .i64 0, .int .i64 0]) := HR.out.below (low_alloc _ _)
  replace HB : Hid (Below w.heap.size w (w2.alloc (.cells #[.int .i64 x.s, .int .i64 x.j.id, .int .i64 x.j.pr, .int .i64 x.j.nd, .int .i64 x.j.na, .int .i64 x.j.nb, .int .i64 x.j.nc, .int .i64 x.j.la, .int .i64 x.j.lb, .int .i64 x.j.lc, .int .i64 x.j.wl, .int .i64 x.j.lv, .int .i64 x.n, .int .i64 x.a, .int .i64 x.b, .int .i64 x.c] 28))) := behind_alloc HB.out _
  generalize w2.alloc (.cells #[.int .i64 x.s, .int .i64 x.j.id, .int .i64 x.j.pr, .int .i64 x.j.nd, .int .i64 x.j.na, .int .i64 x.j.nb, .int .i64 x.j.nc, .int .i64 x.j.la, .int .i64 x.j.lb, .int .i64 x.j.lc, .int .i64 x.j.wl, .int .i64 x.j.lv, .int .i64 x.n, .int .i64 x.a, .int .i64 x.b, .int .i64 x.c] 28) = u3 at HR HB HJ ⊢
  generalize w2.heap.size = q at HJ ⊢
  refine wpList_load_mid rfl 28 _ rfl q 0 rfl [.int .i64 x.s, .int .i64 x.j.id, .int .i64 x.j.pr, .int .i64 x.j.nd, .int .i64 x.j.na, .int .i64 x.j.nb, .int .i64 x.j.nc, .int .i64 x.j.la, .int .i64 x.j.lb, .int .i64 x.j.lc, .int .i64 x.j.wl, .int .i64 x.j.lv, .int .i64 x.n, .int .i64 x.a, .int .i64 x.b, .int .i64 x.c] _ HJ.out.all Tryz.underlying28 rfl szCmdC ?_
  go_wp2_with fail
  refine (HC.out _).mono ?_
  rintro e w3 ⟨rfl, hb⟩
  replace HR : Hid (Row w3 w.heap.size [.int .i64 0, .int .i64 0, .int .i64 0, .int .i64 0, .int .i64 0, .int .i64 0, .int .i64 0, .int .i64 0, .int .i64 0, .int .i64 0, .int .i64 0, .int .i64 0, .int .i64 0, .int .i64 0, .int .i64 0, .int .i64 0]) := HR.out.below hb
  replace HB : Hid (Below w.heap.size w w3) := below_then HB.out hb
  replace HJ : Hid (Row w3 q [.int .i64 x.s, .int .i64 x.j.id, .int .i64 x.j.pr, .int .i64 x.j.nd, .int .i64 x.j.na, .int .i64 x.j.nb, .int .i64 x.j.nc, .int .i64 x.j.la, .int .i64 x.j.lb, .int .i64 x.j.lc, .int .i64 x.j.wl, .int .i64 x.j.lv, .int .i64 x.n, .int .i64 x.a, .int .i64 x.b, .int .i64 x.c]) := HJ.out.below hb
  clear hb HC
  go_wp2_with (refine stay_store 28 ?_)
  refine ⟨?_⟩
  refine wpList_store_mid rfl 28 _ _ rfl w.heap.size 0 (#[.int .i64 0, .int .i64 0, .int .i64 0, .int .i64 0, .int .i64 0, .int .i64 0, .int .i64 0, .int .i64 0, .int .i64 0, .int .i64 0, .int .i64 0, .int .i64 0, .int .i64 0, .int .i64 0, .int .i64 0, .int .i64 0]) rfl rfl (HR.out.room 0 16 (by simp)) szCmdC (by simp [Value.oneCell']) ?_
  replace HR : Hid (Row (w3.setCells w.heap.size 0 (#[.int .i64 0, .int .i64 0, .int .i64 0, .int .i64 0, .int .i64 0, .int .i64 0, .int .i64 0, .int .i64 0, .int .i64 0, .int .i64 0, .int .i64 0, .int .i64 0, .int .i64 0, .int .i64 0, .int .i64 0, .int .i64 0] : Array Value).toList) w.heap.size [.int .i64 0, .int .i64 0, .int .i64 0, .int .i64 0, .int .i64 0, .int .i64 0, .int .i64 0, .int .i64 0, .int .i64 0, .int .i64 0, .int .i64 0, .int .i64 0, .int .i64 0, .int .i64 0, .int .i64 0, .int .i64 0]) := Row.setCs _ 0 HR.out (by simp)
  replace HB : Hid (Below w.heap.size w (w3.setCells w.heap.size 0 (#[.int .i64 0, .int .i64 0, .int .i64 0, .int .i64 0, .int .i64 0, .int .i64 0, .int .i64 0, .int .i64 0, .int .i64 0, .int .i64 0, .int .i64 0, .int .i64 0, .int .i64 0, .int .i64 0, .int .i64 0, .int .i64 0] : Array Value).toList)) := below_setCs (Nat.le_refl _) _ _ HB.out
  generalize w3.setCells w.heap.size 0 _ = u8 at HR HB ⊢
  go_wp2_with fail
  have r0 := HR.out.cell 0 _ rfl
  have r1 := HR.out.cell 1 _ rfl
  have r2 := HR.out.cell 2 _ rfl
  have r3 := HR.out.cell 3 _ rfl
  have r4 := HR.out.cell 4 _ rfl
  have r5 := HR.out.cell 5 _ rfl
  have r6 := HR.out.cell 6 _ rfl
  have r7 := HR.out.cell 7 _ rfl
  have r8 := HR.out.cell 8 _ rfl
  have r9 := HR.out.cell 9 _ rfl
  have r10 := HR.out.cell 10 _ rfl
  have r11 := HR.out.cell 11 _ rfl
  have r12 := HR.out.cell 12 _ rfl
  have r13 := HR.out.cell 13 _ rfl
  have r14 := HR.out.cell 14 _ rfl
  have r15 := HR.out.cell 15 _ rfl
  exact bodyPost_ret (v := .tuple #[.agg #[.int .i64 0, .int .i64 0, .int .i64 0, .int .i64 0, .int .i64 0, .int .i64 0, .int .i64 0, .int .i64 0, .int .i64 0, .int .i64 0, .int .i64 0, .int .i64 0, .int .i64 0, .int .i64 0, .int .i64 0, .int .i64 0], .bool false]) (by simp [results, Tryz.results38, go_sem, *]) rfl ⟨rfl, HB.out⟩

set_option maxHeartbeats 4000000 in
set_option maxRecDepth 100000 in
theorem implTextCmd_ne (s : ByteArray) (hs : s.size ≤ 1048576) (w : World) (hk : KwT w) (env : Env w) (x : Cm) (hx : rdC (pcs 32 s.data.toList) = x) (hok : cmdB x.s x.j x.n x.a x.b x.c = true) (ht : ctL x.s x.j x.n x.a x.b x.c ≠ s.data.toList) : Calls Tryz.prog 38 #[.string s] w fun e w' => e = .returned (.tuple #[.agg #[.int .i64 0, .int .i64 0, .int .i64 0, .int .i64 0, .int .i64 0, .int .i64 0, .int .i64 0, .int .i64 0, .int .i64 0, .int .i64 0, .int .i64 0, .int .i64 0, .int .i64 0, .int .i64 0, .int .i64 0, .int .i64 0], .bool false]) ∧ Below w.heap.size w w' := by
  have HK : Hid (KwT w) := hk
  have HE : Hid (Env w) := env
  have HP : Hid (pcs 32 s.data.toList ≠ []) := pcs_ne _ _
  have HPl : Hid (∀ p, p ∈ pcs 32 s.data.toList → p.length ≤ 1048576) := fun p hp => Nat.le_trans (pcs_size 32 s.data.toList p hp) hs
  have CP := fun W (hW : MaxL W) => implParts_cap s 32 hs W hW
  have CR2 : ∀ (g cap : Nat) (W : World), (pcs 32 s.data.toList).length ≤ cap → Row W g (strs (pcs 32 s.data.toList)) → KwT W → Env W → Calls Tryz.prog 60 #[.slice (some ⟨g, 0, none⟩) (pcs 32 s.data.toList).length cap] W fun e w' => e = .returned (.agg #[.int .i64 x.s, .int .i64 x.j.id, .int .i64 x.j.pr, .int .i64 x.j.nd, .int .i64 x.j.na, .int .i64 x.j.nb, .int .i64 x.j.nc, .int .i64 x.j.la, .int .i64 x.j.lb, .int .i64 x.j.lc, .int .i64 x.j.wl, .int .i64 x.j.lv, .int .i64 x.n, .int .i64 x.a, .int .i64 x.b, .int .i64 x.c]) ∧ Below W.heap.size W w' := fun g cap W hc h hk env => by
    have := readCmd_c g cap (pcs 32 s.data.toList) HP.out HPl.out hc W h hk env
    rw [hx] at this
    exact this
  clear HP HPl hk env hx
  generalize pcs 32 s.data.toList = P at CP CR2
  have HC : Hid (∀ W : World, Calls Tryz.prog 28 #[.agg #[.int .i64 x.s, .int .i64 x.j.id, .int .i64 x.j.pr, .int .i64 x.j.nd, .int .i64 x.j.na, .int .i64 x.j.nb, .int .i64 x.j.nc, .int .i64 x.j.la, .int .i64 x.j.lb, .int .i64 x.j.lc, .int .i64 x.j.wl, .int .i64 x.j.lv, .int .i64 x.n, .int .i64 x.a, .int .i64 x.b, .int .i64 x.c]] W fun e w' => e = .returned (.bool true) ∧ Below W.heap.size W w') := fun W => by have := implCmdOk_c x.s x.j x.n x.a x.b x.c W; rw [hok] at this; exact this
  clear hok
  have HX : Hid (∀ W : World, Tab W → KwT W → Calls Tryz.prog 14 #[.agg #[.int .i64 x.s, .int .i64 x.j.id, .int .i64 x.j.pr, .int .i64 x.j.nd, .int .i64 x.j.na, .int .i64 x.j.nb, .int .i64 x.j.nc, .int .i64 x.j.la, .int .i64 x.j.lb, .int .i64 x.j.lc, .int .i64 x.j.wl, .int .i64 x.j.lv, .int .i64 x.n, .int .i64 x.a, .int .i64 x.b, .int .i64 x.c]] W fun e w' => e = .returned (.string ⟨(ctL x.s x.j x.n x.a x.b x.c).toArray⟩) ∧ Below W.heap.size W w') := fun W h1 h2 => implCmdText_c x.s x.j x.n x.a x.b x.c W h1 h2
  obtain ⟨y, hy, hyl⟩ : ∃ y : ByteArray, (⟨(ctL x.s x.j x.n x.a x.b x.c).toArray⟩ : ByteArray) = y ∧ y.toList = ctL x.s x.j x.n x.a x.b x.c := ⟨_, rfl, by rw [ByteArray.toList_eq]⟩
  rw [hy] at HX
  clear hy
  rw [← hyl, ← ByteArray.toList_eq] at ht
  clear hyl
  have e1 : (y.toList == s.toList) = false := by rw [beq_eq_false_iff_ne]; exact ht
  have e2 : (s.toList == y.toList) = false := by rw [beq_eq_false_iff_ne]; exact fun t => ht t.symm
  clear ht
  go_enter Tryz.func38, Tryz.ntmps38
  go_wp2_with fail
  have HR : Hid (Row (w.alloc (.cells #[.int .i64 0, .int .i64 0, .int .i64 0, .int .i64 0, .int .i64 0, .int .i64 0, .int .i64 0, .int .i64 0, .int .i64 0, .int .i64 0, .int .i64 0, .int .i64 0, .int .i64 0, .int .i64 0, .int .i64 0, .int .i64 0] 28)) w.heap.size [.int .i64 0, .int .i64 0, .int .i64 0, .int .i64 0, .int .i64 0, .int .i64 0, .int .i64 0, .int .i64 0, .int .i64 0, .int .i64 0, .int .i64 0, .int .i64 0, .int .i64 0, .int .i64 0, .int .i64 0, .int .i64 0]) := row_fresh w [.int .i64 0, .int .i64 0, .int .i64 0, .int .i64 0, .int .i64 0, .int .i64 0, .int .i64 0, .int .i64 0, .int .i64 0, .int .i64 0, .int .i64 0, .int .i64 0, .int .i64 0, .int .i64 0, .int .i64 0, .int .i64 0] 28
  have HB : Hid (Below w.heap.size w (w.alloc (.cells #[.int .i64 0, .int .i64 0, .int .i64 0, .int .i64 0, .int .i64 0, .int .i64 0, .int .i64 0, .int .i64 0, .int .i64 0, .int .i64 0, .int .i64 0, .int .i64 0, .int .i64 0, .int .i64 0, .int .i64 0, .int .i64 0] 28))) := low_alloc _ _
  generalize w.alloc (.cells #[.int .i64 0, .int .i64 0, .int .i64 0, .int .i64 0, .int .i64 0, .int .i64 0, .int .i64 0, .int .i64 0, .int .i64 0, .int .i64 0, .int .i64 0, .int .i64 0, .int .i64 0, .int .i64 0, .int .i64 0, .int .i64 0] 28) = u0 at HR HB ⊢
  refine (CP _ (HE.out.on HB.out).2.2).mono ?_
  rintro e w1 ⟨g, cap, rfl, hcap, hr, hb⟩
  replace HR : Hid (Row w1 w.heap.size [.int .i64 0, .int .i64 0, .int .i64 0, .int .i64 0, .int .i64 0, .int .i64 0, .int .i64 0, .int .i64 0, .int .i64 0, .int .i64 0, .int .i64 0, .int .i64 0, .int .i64 0, .int .i64 0, .int .i64 0, .int .i64 0]) := HR.out.below hb
  replace HB : Hid (Below w.heap.size w w1) := below_then HB.out hb
  have HR1 : Hid (Row w1 g (strs P)) := hr
  have HCap : Hid (P.length ≤ cap) := hcap
  clear hr hb CP hcap
  go_wp2_with fail
  refine (CR2 g cap _ HCap.out HR1.out (HK.out.on HB.out) (HE.out.on HB.out)).mono ?_
  rintro e w2 ⟨rfl, hb⟩
  replace HR : Hid (Row w2 w.heap.size [.int .i64 0, .int .i64 0, .int .i64 0, .int .i64 0, .int .i64 0, .int .i64 0, .int .i64 0, .int .i64 0, .int .i64 0, .int .i64 0, .int .i64 0, .int .i64 0, .int .i64 0, .int .i64 0, .int .i64 0, .int .i64 0]) := HR.out.below hb
  replace HB : Hid (Below w.heap.size w w2) := below_then HB.out hb
  clear hb CR2 HR1 HCap
  go_wp2_with (refine stay_load 28 ?_)
  refine ⟨?_⟩
  have HJ : Hid (Row (w2.alloc (.cells #[.int .i64 x.s, .int .i64 x.j.id, .int .i64 x.j.pr, .int .i64 x.j.nd, .int .i64 x.j.na, .int .i64 x.j.nb, .int .i64 x.j.nc, .int .i64 x.j.la, .int .i64 x.j.lb, .int .i64 x.j.lc, .int .i64 x.j.wl, .int .i64 x.j.lv, .int .i64 x.n, .int .i64 x.a, .int .i64 x.b, .int .i64 x.c] 28)) w2.heap.size [.int .i64 x.s, .int .i64 x.j.id, .int .i64 x.j.pr, .int .i64 x.j.nd, .int .i64 x.j.na, .int .i64 x.j.nb, .int .i64 x.j.nc, .int .i64 x.j.la, .int .i64 x.j.lb, .int .i64 x.j.lc, .int .i64 x.j.wl, .int .i64 x.j.lv, .int .i64 x.n, .int .i64 x.a, .int .i64 x.b, .int .i64 x.c]) := row_fresh w2 [.int .i64 x.s, .int .i64 x.j.id, .int .i64 x.j.pr, .int .i64 x.j.nd, .int .i64 x.j.na, .int .i64 x.j.nb, .int .i64 x.j.nc, .int .i64 x.j.la, .int .i64 x.j.lb, .int .i64 x.j.lc, .int .i64 x.j.wl, .int .i64 x.j.lv, .int .i64 x.n, .int .i64 x.a, .int .i64 x.b, .int .i64 x.c] 28
  replace HR : Hid (Row (w2.alloc (.cells #[.int .i64 x.s, .int .i64 x.j.id, .int .i64 x.j.pr, .int .i64 x.j.nd, .int .i64 x.j.na, .int .i64 x.j.nb, .int .i64 x.j.nc, .int .i64 x.j.la, .int .i64 x.j.lb, .int .i64 x.j.lc, .int .i64 x.j.wl, .int .i64 x.j.lv, .int .i64 x.n, .int .i64 x.a, .int .i64 x.b, .int .i64 x.c] 28)) w.heap.size [.int .i64 0, .int .i64 0, .int .i64 0, .int .i64 0, .int .i64 0, .int .i64 0, .int .i64 0, .int .i64 0, .int .i64 0, .int .i64 0, .int .i64 0, .int .i64 0, .int .i64 0, .int .i64 0, .int .i64 0, .int .i64 0]) := HR.out.below (low_alloc _ _)
  replace HB : Hid (Below w.heap.size w (w2.alloc (.cells #[.int .i64 x.s, .int .i64 x.j.id, .int .i64 x.j.pr, .int .i64 x.j.nd, .int .i64 x.j.na, .int .i64 x.j.nb, .int .i64 x.j.nc, .int .i64 x.j.la, .int .i64 x.j.lb, .int .i64 x.j.lc, .int .i64 x.j.wl, .int .i64 x.j.lv, .int .i64 x.n, .int .i64 x.a, .int .i64 x.b, .int .i64 x.c] 28))) := behind_alloc HB.out _
  generalize w2.alloc (.cells #[.int .i64 x.s, .int .i64 x.j.id, .int .i64 x.j.pr, .int .i64 x.j.nd, .int .i64 x.j.na, .int .i64 x.j.nb, .int .i64 x.j.nc, .int .i64 x.j.la, .int .i64 x.j.lb, .int .i64 x.j.lc, .int .i64 x.j.wl, .int .i64 x.j.lv, .int .i64 x.n, .int .i64 x.a, .int .i64 x.b, .int .i64 x.c] 28) = u3 at HR HB HJ ⊢
  generalize w2.heap.size = q at HJ ⊢
  refine wpList_load_mid rfl 28 _ rfl q 0 rfl [.int .i64 x.s, .int .i64 x.j.id, .int .i64 x.j.pr, .int .i64 x.j.nd, .int .i64 x.j.na, .int .i64 x.j.nb, .int .i64 x.j.nc, .int .i64 x.j.la, .int .i64 x.j.lb, .int .i64 x.j.lc, .int .i64 x.j.wl, .int .i64 x.j.lv, .int .i64 x.n, .int .i64 x.a, .int .i64 x.b, .int .i64 x.c] _ HJ.out.all Tryz.underlying28 rfl szCmdC ?_
  go_wp2_with fail
  refine (HC.out _).mono ?_
  rintro e w3 ⟨rfl, hb⟩
  replace HR : Hid (Row w3 w.heap.size [.int .i64 0, .int .i64 0, .int .i64 0, .int .i64 0, .int .i64 0, .int .i64 0, .int .i64 0, .int .i64 0, .int .i64 0, .int .i64 0, .int .i64 0, .int .i64 0, .int .i64 0, .int .i64 0, .int .i64 0, .int .i64 0]) := HR.out.below hb
  replace HB : Hid (Below w.heap.size w w3) := below_then HB.out hb
  replace HJ : Hid (Row w3 q [.int .i64 x.s, .int .i64 x.j.id, .int .i64 x.j.pr, .int .i64 x.j.nd, .int .i64 x.j.na, .int .i64 x.j.nb, .int .i64 x.j.nc, .int .i64 x.j.la, .int .i64 x.j.lb, .int .i64 x.j.lc, .int .i64 x.j.wl, .int .i64 x.j.lv, .int .i64 x.n, .int .i64 x.a, .int .i64 x.b, .int .i64 x.c]) := HJ.out.below hb
  clear hb HC
  have d0 := HJ.out.cell 0 _ rfl
  have d1 := HJ.out.cell 1 _ rfl
  have d2 := HJ.out.cell 2 _ rfl
  have d3 := HJ.out.cell 3 _ rfl
  have d4 := HJ.out.cell 4 _ rfl
  have d5 := HJ.out.cell 5 _ rfl
  have d6 := HJ.out.cell 6 _ rfl
  have d7 := HJ.out.cell 7 _ rfl
  have d8 := HJ.out.cell 8 _ rfl
  have d9 := HJ.out.cell 9 _ rfl
  have d10 := HJ.out.cell 10 _ rfl
  have d11 := HJ.out.cell 11 _ rfl
  have d12 := HJ.out.cell 12 _ rfl
  have d13 := HJ.out.cell 13 _ rfl
  have d14 := HJ.out.cell 14 _ rfl
  have d15 := HJ.out.cell 15 _ rfl
  go_wp2_with fail
  clear d0 d1 d2 d3 d4 d5 d6 d7 d8 d9 d10 d11 d12 d13 d14 d15
  refine (HX.out _ (HE.out.on HB.out).1 (HK.out.on HB.out)).mono ?_
  rintro e w4 ⟨rfl, hb⟩
  replace HR : Hid (Row w4 w.heap.size [.int .i64 0, .int .i64 0, .int .i64 0, .int .i64 0, .int .i64 0, .int .i64 0, .int .i64 0, .int .i64 0, .int .i64 0, .int .i64 0, .int .i64 0, .int .i64 0, .int .i64 0, .int .i64 0, .int .i64 0, .int .i64 0]) := HR.out.below hb
  replace HB : Hid (Below w.heap.size w w4) := below_then HB.out hb
  replace HJ : Hid (Row w4 q [.int .i64 x.s, .int .i64 x.j.id, .int .i64 x.j.pr, .int .i64 x.j.nd, .int .i64 x.j.na, .int .i64 x.j.nb, .int .i64 x.j.nc, .int .i64 x.j.la, .int .i64 x.j.lb, .int .i64 x.j.lc, .int .i64 x.j.wl, .int .i64 x.j.lv, .int .i64 x.n, .int .i64 x.a, .int .i64 x.b, .int .i64 x.c]) := HJ.out.below hb
  clear hb HX
  go_wp2_with (refine stay_store 28 ?_)
  refine ⟨?_⟩
  refine wpList_store_mid rfl 28 _ _ rfl w.heap.size 0 (#[.int .i64 0, .int .i64 0, .int .i64 0, .int .i64 0, .int .i64 0, .int .i64 0, .int .i64 0, .int .i64 0, .int .i64 0, .int .i64 0, .int .i64 0, .int .i64 0, .int .i64 0, .int .i64 0, .int .i64 0, .int .i64 0]) rfl rfl (HR.out.room 0 16 (by simp)) szCmdC (by simp [Value.oneCell']) ?_
  replace HR : Hid (Row (w4.setCells w.heap.size 0 (#[.int .i64 0, .int .i64 0, .int .i64 0, .int .i64 0, .int .i64 0, .int .i64 0, .int .i64 0, .int .i64 0, .int .i64 0, .int .i64 0, .int .i64 0, .int .i64 0, .int .i64 0, .int .i64 0, .int .i64 0, .int .i64 0] : Array Value).toList) w.heap.size [.int .i64 0, .int .i64 0, .int .i64 0, .int .i64 0, .int .i64 0, .int .i64 0, .int .i64 0, .int .i64 0, .int .i64 0, .int .i64 0, .int .i64 0, .int .i64 0, .int .i64 0, .int .i64 0, .int .i64 0, .int .i64 0]) := Row.setCs _ 0 HR.out (by simp)
  replace HB : Hid (Below w.heap.size w (w4.setCells w.heap.size 0 (#[.int .i64 0, .int .i64 0, .int .i64 0, .int .i64 0, .int .i64 0, .int .i64 0, .int .i64 0, .int .i64 0, .int .i64 0, .int .i64 0, .int .i64 0, .int .i64 0, .int .i64 0, .int .i64 0, .int .i64 0, .int .i64 0] : Array Value).toList)) := below_setCs (Nat.le_refl _) _ _ HB.out
  generalize w4.setCells w.heap.size 0 _ = u8 at HR HB ⊢
  go_wp2_with fail
  have r0 := HR.out.cell 0 _ rfl
  have r1 := HR.out.cell 1 _ rfl
  have r2 := HR.out.cell 2 _ rfl
  have r3 := HR.out.cell 3 _ rfl
  have r4 := HR.out.cell 4 _ rfl
  have r5 := HR.out.cell 5 _ rfl
  have r6 := HR.out.cell 6 _ rfl
  have r7 := HR.out.cell 7 _ rfl
  have r8 := HR.out.cell 8 _ rfl
  have r9 := HR.out.cell 9 _ rfl
  have r10 := HR.out.cell 10 _ rfl
  have r11 := HR.out.cell 11 _ rfl
  have r12 := HR.out.cell 12 _ rfl
  have r13 := HR.out.cell 13 _ rfl
  have r14 := HR.out.cell 14 _ rfl
  have r15 := HR.out.cell 15 _ rfl
  exact bodyPost_ret (v := .tuple #[.agg #[.int .i64 0, .int .i64 0, .int .i64 0, .int .i64 0, .int .i64 0, .int .i64 0, .int .i64 0, .int .i64 0, .int .i64 0, .int .i64 0, .int .i64 0, .int .i64 0, .int .i64 0, .int .i64 0, .int .i64 0, .int .i64 0], .bool false]) (by simp [results, Tryz.results38, go_sem, *]) rfl ⟨rfl, HB.out⟩

set_option maxHeartbeats 4000000 in
set_option maxRecDepth 100000 in
theorem implTextCmd_eq (s : ByteArray) (hs : s.size ≤ 1048576) (w : World) (hk : KwT w) (env : Env w) (x : Cm) (hx : rdC (pcs 32 s.data.toList) = x) (hok : cmdB x.s x.j x.n x.a x.b x.c = true) (ht : ctL x.s x.j x.n x.a x.b x.c = s.data.toList) : Calls Tryz.prog 38 #[.string s] w fun e w' => e = .returned (.tuple #[.agg #[.int .i64 x.s, .int .i64 x.j.id, .int .i64 x.j.pr, .int .i64 x.j.nd, .int .i64 x.j.na, .int .i64 x.j.nb, .int .i64 x.j.nc, .int .i64 x.j.la, .int .i64 x.j.lb, .int .i64 x.j.lc, .int .i64 x.j.wl, .int .i64 x.j.lv, .int .i64 x.n, .int .i64 x.a, .int .i64 x.b, .int .i64 x.c], .bool true]) ∧ Below w.heap.size w w' := by
  have HK : Hid (KwT w) := hk
  have HE : Hid (Env w) := env
  have HP : Hid (pcs 32 s.data.toList ≠ []) := pcs_ne _ _
  have HPl : Hid (∀ p, p ∈ pcs 32 s.data.toList → p.length ≤ 1048576) := fun p hp => Nat.le_trans (pcs_size 32 s.data.toList p hp) hs
  have CP := fun W (hW : MaxL W) => implParts_cap s 32 hs W hW
  have CR2 : ∀ (g cap : Nat) (W : World), (pcs 32 s.data.toList).length ≤ cap → Row W g (strs (pcs 32 s.data.toList)) → KwT W → Env W → Calls Tryz.prog 60 #[.slice (some ⟨g, 0, none⟩) (pcs 32 s.data.toList).length cap] W fun e w' => e = .returned (.agg #[.int .i64 x.s, .int .i64 x.j.id, .int .i64 x.j.pr, .int .i64 x.j.nd, .int .i64 x.j.na, .int .i64 x.j.nb, .int .i64 x.j.nc, .int .i64 x.j.la, .int .i64 x.j.lb, .int .i64 x.j.lc, .int .i64 x.j.wl, .int .i64 x.j.lv, .int .i64 x.n, .int .i64 x.a, .int .i64 x.b, .int .i64 x.c]) ∧ Below W.heap.size W w' := fun g cap W hc h hk env => by
    have := readCmd_c g cap (pcs 32 s.data.toList) HP.out HPl.out hc W h hk env
    rw [hx] at this
    exact this
  clear HP HPl hk env hx
  generalize pcs 32 s.data.toList = P at CP CR2
  have HC : Hid (∀ W : World, Calls Tryz.prog 28 #[.agg #[.int .i64 x.s, .int .i64 x.j.id, .int .i64 x.j.pr, .int .i64 x.j.nd, .int .i64 x.j.na, .int .i64 x.j.nb, .int .i64 x.j.nc, .int .i64 x.j.la, .int .i64 x.j.lb, .int .i64 x.j.lc, .int .i64 x.j.wl, .int .i64 x.j.lv, .int .i64 x.n, .int .i64 x.a, .int .i64 x.b, .int .i64 x.c]] W fun e w' => e = .returned (.bool true) ∧ Below W.heap.size W w') := fun W => by have := implCmdOk_c x.s x.j x.n x.a x.b x.c W; rw [hok] at this; exact this
  clear hok
  have HX : Hid (∀ W : World, Tab W → KwT W → Calls Tryz.prog 14 #[.agg #[.int .i64 x.s, .int .i64 x.j.id, .int .i64 x.j.pr, .int .i64 x.j.nd, .int .i64 x.j.na, .int .i64 x.j.nb, .int .i64 x.j.nc, .int .i64 x.j.la, .int .i64 x.j.lb, .int .i64 x.j.lc, .int .i64 x.j.wl, .int .i64 x.j.lv, .int .i64 x.n, .int .i64 x.a, .int .i64 x.b, .int .i64 x.c]] W fun e w' => e = .returned (.string ⟨(ctL x.s x.j x.n x.a x.b x.c).toArray⟩) ∧ Below W.heap.size W w') := fun W h1 h2 => implCmdText_c x.s x.j x.n x.a x.b x.c W h1 h2
  obtain ⟨y, hy, hyl⟩ : ∃ y : ByteArray, (⟨(ctL x.s x.j x.n x.a x.b x.c).toArray⟩ : ByteArray) = y ∧ y.toList = ctL x.s x.j x.n x.a x.b x.c := ⟨_, rfl, by rw [ByteArray.toList_eq]⟩
  rw [hy] at HX
  clear hy
  rw [← hyl, ← ByteArray.toList_eq] at ht
  clear hyl
  have e1 : (y.toList == s.toList) = true := by rw [ht]; simp
  have e2 : (s.toList == y.toList) = true := by rw [ht]; simp
  clear ht
  go_enter Tryz.func38, Tryz.ntmps38
  go_wp2_with fail
  have HR : Hid (Row (w.alloc (.cells #[.int .i64 0, .int .i64 0, .int .i64 0, .int .i64 0, .int .i64 0, .int .i64 0, .int .i64 0, .int .i64 0, .int .i64 0, .int .i64 0, .int .i64 0, .int .i64 0, .int .i64 0, .int .i64 0, .int .i64 0, .int .i64 0] 28)) w.heap.size [.int .i64 0, .int .i64 0, .int .i64 0, .int .i64 0, .int .i64 0, .int .i64 0, .int .i64 0, .int .i64 0, .int .i64 0, .int .i64 0, .int .i64 0, .int .i64 0, .int .i64 0, .int .i64 0, .int .i64 0, .int .i64 0]) := row_fresh w [.int .i64 0, .int .i64 0, .int .i64 0, .int .i64 0, .int .i64 0, .int .i64 0, .int .i64 0, .int .i64 0, .int .i64 0, .int .i64 0, .int .i64 0, .int .i64 0, .int .i64 0, .int .i64 0, .int .i64 0, .int .i64 0] 28
  have HB : Hid (Below w.heap.size w (w.alloc (.cells #[.int .i64 0, .int .i64 0, .int .i64 0, .int .i64 0, .int .i64 0, .int .i64 0, .int .i64 0, .int .i64 0, .int .i64 0, .int .i64 0, .int .i64 0, .int .i64 0, .int .i64 0, .int .i64 0, .int .i64 0, .int .i64 0] 28))) := low_alloc _ _
  generalize w.alloc (.cells #[.int .i64 0, .int .i64 0, .int .i64 0, .int .i64 0, .int .i64 0, .int .i64 0, .int .i64 0, .int .i64 0, .int .i64 0, .int .i64 0, .int .i64 0, .int .i64 0, .int .i64 0, .int .i64 0, .int .i64 0, .int .i64 0] 28) = u0 at HR HB ⊢
  refine (CP _ (HE.out.on HB.out).2.2).mono ?_
  rintro e w1 ⟨g, cap, rfl, hcap, hr, hb⟩
  replace HR : Hid (Row w1 w.heap.size [.int .i64 0, .int .i64 0, .int .i64 0, .int .i64 0, .int .i64 0, .int .i64 0, .int .i64 0, .int .i64 0, .int .i64 0, .int .i64 0, .int .i64 0, .int .i64 0, .int .i64 0, .int .i64 0, .int .i64 0, .int .i64 0]) := HR.out.below hb
  replace HB : Hid (Below w.heap.size w w1) := below_then HB.out hb
  have HR1 : Hid (Row w1 g (strs P)) := hr
  have HCap : Hid (P.length ≤ cap) := hcap
  clear hr hb CP hcap
  go_wp2_with fail
  refine (CR2 g cap _ HCap.out HR1.out (HK.out.on HB.out) (HE.out.on HB.out)).mono ?_
  rintro e w2 ⟨rfl, hb⟩
  replace HR : Hid (Row w2 w.heap.size [.int .i64 0, .int .i64 0, .int .i64 0, .int .i64 0, .int .i64 0, .int .i64 0, .int .i64 0, .int .i64 0, .int .i64 0, .int .i64 0, .int .i64 0, .int .i64 0, .int .i64 0, .int .i64 0, .int .i64 0, .int .i64 0]) := HR.out.below hb
  replace HB : Hid (Below w.heap.size w w2) := below_then HB.out hb
  clear hb CR2 HR1 HCap
  go_wp2_with (refine stay_load 28 ?_)
  refine ⟨?_⟩
  have HJ : Hid (Row (w2.alloc (.cells #[.int .i64 x.s, .int .i64 x.j.id, .int .i64 x.j.pr, .int .i64 x.j.nd, .int .i64 x.j.na, .int .i64 x.j.nb, .int .i64 x.j.nc, .int .i64 x.j.la, .int .i64 x.j.lb, .int .i64 x.j.lc, .int .i64 x.j.wl, .int .i64 x.j.lv, .int .i64 x.n, .int .i64 x.a, .int .i64 x.b, .int .i64 x.c] 28)) w2.heap.size [.int .i64 x.s, .int .i64 x.j.id, .int .i64 x.j.pr, .int .i64 x.j.nd, .int .i64 x.j.na, .int .i64 x.j.nb, .int .i64 x.j.nc, .int .i64 x.j.la, .int .i64 x.j.lb, .int .i64 x.j.lc, .int .i64 x.j.wl, .int .i64 x.j.lv, .int .i64 x.n, .int .i64 x.a, .int .i64 x.b, .int .i64 x.c]) := row_fresh w2 [.int .i64 x.s, .int .i64 x.j.id, .int .i64 x.j.pr, .int .i64 x.j.nd, .int .i64 x.j.na, .int .i64 x.j.nb, .int .i64 x.j.nc, .int .i64 x.j.la, .int .i64 x.j.lb, .int .i64 x.j.lc, .int .i64 x.j.wl, .int .i64 x.j.lv, .int .i64 x.n, .int .i64 x.a, .int .i64 x.b, .int .i64 x.c] 28
  replace HR : Hid (Row (w2.alloc (.cells #[.int .i64 x.s, .int .i64 x.j.id, .int .i64 x.j.pr, .int .i64 x.j.nd, .int .i64 x.j.na, .int .i64 x.j.nb, .int .i64 x.j.nc, .int .i64 x.j.la, .int .i64 x.j.lb, .int .i64 x.j.lc, .int .i64 x.j.wl, .int .i64 x.j.lv, .int .i64 x.n, .int .i64 x.a, .int .i64 x.b, .int .i64 x.c] 28)) w.heap.size [.int .i64 0, .int .i64 0, .int .i64 0, .int .i64 0, .int .i64 0, .int .i64 0, .int .i64 0, .int .i64 0, .int .i64 0, .int .i64 0, .int .i64 0, .int .i64 0, .int .i64 0, .int .i64 0, .int .i64 0, .int .i64 0]) := HR.out.below (low_alloc _ _)
  replace HB : Hid (Below w.heap.size w (w2.alloc (.cells #[.int .i64 x.s, .int .i64 x.j.id, .int .i64 x.j.pr, .int .i64 x.j.nd, .int .i64 x.j.na, .int .i64 x.j.nb, .int .i64 x.j.nc, .int .i64 x.j.la, .int .i64 x.j.lb, .int .i64 x.j.lc, .int .i64 x.j.wl, .int .i64 x.j.lv, .int .i64 x.n, .int .i64 x.a, .int .i64 x.b, .int .i64 x.c] 28))) := behind_alloc HB.out _
  generalize w2.alloc (.cells #[.int .i64 x.s, .int .i64 x.j.id, .int .i64 x.j.pr, .int .i64 x.j.nd, .int .i64 x.j.na, .int .i64 x.j.nb, .int .i64 x.j.nc, .int .i64 x.j.la, .int .i64 x.j.lb, .int .i64 x.j.lc, .int .i64 x.j.wl, .int .i64 x.j.lv, .int .i64 x.n, .int .i64 x.a, .int .i64 x.b, .int .i64 x.c] 28) = u3 at HR HB HJ ⊢
  generalize w2.heap.size = q at HJ ⊢
  refine wpList_load_mid rfl 28 _ rfl q 0 rfl [.int .i64 x.s, .int .i64 x.j.id, .int .i64 x.j.pr, .int .i64 x.j.nd, .int .i64 x.j.na, .int .i64 x.j.nb, .int .i64 x.j.nc, .int .i64 x.j.la, .int .i64 x.j.lb, .int .i64 x.j.lc, .int .i64 x.j.wl, .int .i64 x.j.lv, .int .i64 x.n, .int .i64 x.a, .int .i64 x.b, .int .i64 x.c] _ HJ.out.all Tryz.underlying28 rfl szCmdC ?_
  go_wp2_with fail
  refine (HC.out _).mono ?_
  rintro e w3 ⟨rfl, hb⟩
  replace HR : Hid (Row w3 w.heap.size [.int .i64 0, .int .i64 0, .int .i64 0, .int .i64 0, .int .i64 0, .int .i64 0, .int .i64 0, .int .i64 0, .int .i64 0, .int .i64 0, .int .i64 0, .int .i64 0, .int .i64 0, .int .i64 0, .int .i64 0, .int .i64 0]) := HR.out.below hb
  replace HB : Hid (Below w.heap.size w w3) := below_then HB.out hb
  replace HJ : Hid (Row w3 q [.int .i64 x.s, .int .i64 x.j.id, .int .i64 x.j.pr, .int .i64 x.j.nd, .int .i64 x.j.na, .int .i64 x.j.nb, .int .i64 x.j.nc, .int .i64 x.j.la, .int .i64 x.j.lb, .int .i64 x.j.lc, .int .i64 x.j.wl, .int .i64 x.j.lv, .int .i64 x.n, .int .i64 x.a, .int .i64 x.b, .int .i64 x.c]) := HJ.out.below hb
  clear hb HC
  have d0 := HJ.out.cell 0 _ rfl
  have d1 := HJ.out.cell 1 _ rfl
  have d2 := HJ.out.cell 2 _ rfl
  have d3 := HJ.out.cell 3 _ rfl
  have d4 := HJ.out.cell 4 _ rfl
  have d5 := HJ.out.cell 5 _ rfl
  have d6 := HJ.out.cell 6 _ rfl
  have d7 := HJ.out.cell 7 _ rfl
  have d8 := HJ.out.cell 8 _ rfl
  have d9 := HJ.out.cell 9 _ rfl
  have d10 := HJ.out.cell 10 _ rfl
  have d11 := HJ.out.cell 11 _ rfl
  have d12 := HJ.out.cell 12 _ rfl
  have d13 := HJ.out.cell 13 _ rfl
  have d14 := HJ.out.cell 14 _ rfl
  have d15 := HJ.out.cell 15 _ rfl
  go_wp2_with fail
  clear d0 d1 d2 d3 d4 d5 d6 d7 d8 d9 d10 d11 d12 d13 d14 d15
  refine (HX.out _ (HE.out.on HB.out).1 (HK.out.on HB.out)).mono ?_
  rintro e w4 ⟨rfl, hb⟩
  replace HR : Hid (Row w4 w.heap.size [.int .i64 0, .int .i64 0, .int .i64 0, .int .i64 0, .int .i64 0, .int .i64 0, .int .i64 0, .int .i64 0, .int .i64 0, .int .i64 0, .int .i64 0, .int .i64 0, .int .i64 0, .int .i64 0, .int .i64 0, .int .i64 0]) := HR.out.below hb
  replace HB : Hid (Below w.heap.size w w4) := below_then HB.out hb
  replace HJ : Hid (Row w4 q [.int .i64 x.s, .int .i64 x.j.id, .int .i64 x.j.pr, .int .i64 x.j.nd, .int .i64 x.j.na, .int .i64 x.j.nb, .int .i64 x.j.nc, .int .i64 x.j.la, .int .i64 x.j.lb, .int .i64 x.j.lc, .int .i64 x.j.wl, .int .i64 x.j.lv, .int .i64 x.n, .int .i64 x.a, .int .i64 x.b, .int .i64 x.c]) := HJ.out.below hb
  clear hb HX
  go_wp2_with (refine stay_load 28 ?_)
  refine ⟨?_⟩
  refine wpList_load_mid rfl 28 _ rfl q 0 rfl [.int .i64 x.s, .int .i64 x.j.id, .int .i64 x.j.pr, .int .i64 x.j.nd, .int .i64 x.j.na, .int .i64 x.j.nb, .int .i64 x.j.nc, .int .i64 x.j.la, .int .i64 x.j.lb, .int .i64 x.j.lc, .int .i64 x.j.wl, .int .i64 x.j.lv, .int .i64 x.n, .int .i64 x.a, .int .i64 x.b, .int .i64 x.c] _ HJ.out.all Tryz.underlying28 rfl szCmdC ?_
  go_wp2_with (refine stay_store 28 ?_)
  refine ⟨?_⟩
  refine wpList_store_mid rfl 28 _ _ rfl w.heap.size 0 (#[.int .i64 x.s, .int .i64 x.j.id, .int .i64 x.j.pr, .int .i64 x.j.nd, .int .i64 x.j.na, .int .i64 x.j.nb, .int .i64 x.j.nc, .int .i64 x.j.la, .int .i64 x.j.lb, .int .i64 x.j.lc, .int .i64 x.j.wl, .int .i64 x.j.lv, .int .i64 x.n, .int .i64 x.a, .int .i64 x.b, .int .i64 x.c]) rfl rfl (HR.out.room 0 16 (by simp)) szCmdC (by simp [Value.oneCell']) ?_
  replace HR : Hid (Row (w4.setCells w.heap.size 0 (#[.int .i64 x.s, .int .i64 x.j.id, .int .i64 x.j.pr, .int .i64 x.j.nd, .int .i64 x.j.na, .int .i64 x.j.nb, .int .i64 x.j.nc, .int .i64 x.j.la, .int .i64 x.j.lb, .int .i64 x.j.lc, .int .i64 x.j.wl, .int .i64 x.j.lv, .int .i64 x.n, .int .i64 x.a, .int .i64 x.b, .int .i64 x.c] : Array Value).toList) w.heap.size [.int .i64 x.s, .int .i64 x.j.id, .int .i64 x.j.pr, .int .i64 x.j.nd, .int .i64 x.j.na, .int .i64 x.j.nb, .int .i64 x.j.nc, .int .i64 x.j.la, .int .i64 x.j.lb, .int .i64 x.j.lc, .int .i64 x.j.wl, .int .i64 x.j.lv, .int .i64 x.n, .int .i64 x.a, .int .i64 x.b, .int .i64 x.c]) := Row.setCs _ 0 HR.out (by simp)
  replace HB : Hid (Below w.heap.size w (w4.setCells w.heap.size 0 (#[.int .i64 x.s, .int .i64 x.j.id, .int .i64 x.j.pr, .int .i64 x.j.nd, .int .i64 x.j.na, .int .i64 x.j.nb, .int .i64 x.j.nc, .int .i64 x.j.la, .int .i64 x.j.lb, .int .i64 x.j.lc, .int .i64 x.j.wl, .int .i64 x.j.lv, .int .i64 x.n, .int .i64 x.a, .int .i64 x.b, .int .i64 x.c] : Array Value).toList)) := below_setCs (Nat.le_refl _) _ _ HB.out
  generalize w4.setCells w.heap.size 0 _ = u8 at HR HB ⊢
  go_wp2_with fail
  have r0 := HR.out.cell 0 _ rfl
  have r1 := HR.out.cell 1 _ rfl
  have r2 := HR.out.cell 2 _ rfl
  have r3 := HR.out.cell 3 _ rfl
  have r4 := HR.out.cell 4 _ rfl
  have r5 := HR.out.cell 5 _ rfl
  have r6 := HR.out.cell 6 _ rfl
  have r7 := HR.out.cell 7 _ rfl
  have r8 := HR.out.cell 8 _ rfl
  have r9 := HR.out.cell 9 _ rfl
  have r10 := HR.out.cell 10 _ rfl
  have r11 := HR.out.cell 11 _ rfl
  have r12 := HR.out.cell 12 _ rfl
  have r13 := HR.out.cell 13 _ rfl
  have r14 := HR.out.cell 14 _ rfl
  have r15 := HR.out.cell 15 _ rfl
  exact bodyPost_ret (v := .tuple #[.agg #[.int .i64 x.s, .int .i64 x.j.id, .int .i64 x.j.pr, .int .i64 x.j.nd, .int .i64 x.j.na, .int .i64 x.j.nb, .int .i64 x.j.nc, .int .i64 x.j.la, .int .i64 x.j.lb, .int .i64 x.j.lc, .int .i64 x.j.wl, .int .i64 x.j.lv, .int .i64 x.n, .int .i64 x.a, .int .i64 x.b, .int .i64 x.c], .bool true]) (by simp [results, Tryz.results38, go_sem, *]) rfl ⟨rfl, HB.out⟩

theorem implTextCmd_c (s : ByteArray) (hs : s.size ≤ 1048576) (w : World) (hk : KwT w) (env : Env w) : Calls Tryz.prog 38 #[.string s] w fun e w' => e = .returned (.tuple #[.agg (tcR s.data.toList).1.cells.toArray, .bool (tcR s.data.toList).2]) ∧ Below w.heap.size w w' := by
  unfold tcR
  generalize hx : rdC (pcs 32 s.data.toList) = x
  cases hok : cmdB x.s x.j x.n x.a x.b x.c
  · rw [if_neg (fun t => by cases t.1)]
    exact implTextCmd_no s hs w hk env x hx hok
  · by_cases ht : ctL x.s x.j x.n x.a x.b x.c = s.data.toList
    · rw [if_pos ⟨rfl, ht⟩]
      exact implTextCmd_eq s hs w hk env x hx hok ht
    · rw [if_neg (fun t => ht t.2)]
      exact implTextCmd_ne s hs w hk env x hx hok ht
end Go.Proofs.YtejleghdgdbbnaaGreatDoor
