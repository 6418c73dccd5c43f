/- The text of a command: both, for every command. -/
import Derived.Test.YtejleghdgdbbnaaDoorCmX
namespace Go.Proofs.YtejleghdgdbbnaaDoor
open Go.ChangeShapes Go.WideShapes Go.ChangeAt Go.RowKit

theorem join_c (g cap : Nat) (ws : List (List UInt8)) (w : World) (h : Row w g (strs ws)) (hn : ws.length ≤ 1000) (hcap : ws.length ≤ cap) (hlen : (Lib.join ws [32]).length ≤ 50000) :
    Calls Tryd.prog 25 #[.slice (some ⟨g, 0, none⟩) ws.length cap, .string ⟨#[32]⟩] w fun e w' => e = .returned (.string ⟨(Lib.join ws [32]).toArray⟩) ∧ Below w.heap.size w w' := by
  have hm : (ws.map (fun p => (⟨p.toArray⟩ : ByteArray))).map (fun (x : ByteArray) => x.data.toList) = ws := by
    rw [List.map_map]; conv => rhs; rw [← List.map_id ws]
    exact List.map_congr_left (fun p _ => by simp)
  have hj := Tryd.strings_Join g 0 cap (ws.map (fun p => (⟨p.toArray⟩ : ByteArray))) ⟨#[32]⟩ w (fun j x hx => by
    rw [Nat.zero_add]
    refine h.cell j _ ?_
    rw [strs_get]
    rw [List.getElem?_map] at hx
    cases hw : ws[j]? with
    | none => rw [hw] at hx; cases hx
    | some p => rw [hw] at hx; simp at hx; simp [hx]) h.lt (by simp; omega) (by simp; omega) (by rw [hm]; have : (⟨#[32]⟩ : ByteArray).data.toList = [32] := rfl; rw [this]; omega)
  rw [hm] at hj
  simpa using hj

theorem kwL_len (s : Int) : (kwL s).length ≤ 6 := by
  unfold kwL
  generalize s.toNat = k
  match k with
  | 0 => decide
  | 1 => decide
  | 2 => decide
  | 3 => decide
  | 4 => decide
  | 5 => decide
  | 6 => decide
  | 7 => decide
  | k + 8 => simp [kws]
theorem cw_len (s : Int) (j : Jb) (n a b c : Int) : (Lib.join (cwL s j n a b c) [32]).length ≤ 500 := by
  have h0 := kwL_len s
  have h1 := numL_len n
  have h2 := vt_len a b c
  have h3 := numL_len j.id
  have h4 := numL_len j.pr
  have h5 := numL_len j.nd
  have h6 := vt_len j.na j.nb j.nc
  have h7 := vt_len j.la j.lb j.lc
  have h8 := numL_len j.wl
  have h9 := numL_len j.lv
  unfold cwL
  split
  · simp [jwL, Lib.join]; omega
  · split
    · simp [Lib.join]; omega
    · simp [Lib.join]; omega

theorem cmdB_seven {s : Int} {j : Jb} {n a b c : Int} (h : cmdB s j n a b c = true) : s = 1 ∨ s = 2 ∨ s = 3 ∨ s = 4 ∨ s = 5 ∨ s = 6 ∨ s = 7 := by
  rcases Decidable.em (s < 1 ∨ 7 < s) with hh | hh
  · rw [cmdB_no s j n a b c hh] at h; cases h
  · omega
theorem cw_few (s : Int) (j : Jb) (n a b c : Int) : (cwL s j n a b c).length ≤ 1000 := by
  unfold cwL
  split
  · simp [jwL]
  · split <;> simp
set_option maxHeartbeats 1000000 in
set_option maxRecDepth 100000 in
theorem cmdWords_c (s : Int) (j : Jb) (n a b c : Int) (w : World) (h : cmdB s j n a b c = true) (ht : Tab w) (hk : KwT w) : Calls Tryd.prog 26 #[.agg #[.int .i64 s, .int .i64 j.id, .int .i64 j.pr, .int .i64 j.nd, .int .i64 j.na, .int .i64 j.nb, .int .i64 j.nc, .int .i64 j.la, .int .i64 j.lb, .int .i64 j.lc, .int .i64 j.wl, .int .i64 j.lv, .int .i64 n, .int .i64 a, .int .i64 b, .int .i64 c]] w fun e w' => ∃ g cap, e = .returned (.slice (some ⟨g, 0, none⟩) (cwL s j n a b c).length cap) ∧ (cwL s j n a b c).length ≤ cap ∧ Row w' g (strs (cwL s j n a b c)) ∧ Below w.heap.size w w' := by
  have h7 := cmdB_seven h
  rcases h7 with rfl | rfl | rfl | rfl | rfl | rfl | rfl
  · exact cmdWords_1 j n a b c w ht hk
  · exact (cmdWords_2 j n a b c w ht hk).mono fun e w' ⟨g, e1, e2, e3⟩ => ⟨g, 2, e1, Nat.le_refl _, e2, e3⟩
  · exact (cmdWords_3 j n a b c w ht hk).mono fun e w' ⟨g, e1, e2, e3⟩ => ⟨g, 2, e1, Nat.le_refl _, e2, e3⟩
  · exact (cmdWords_4 j n a b c w ht hk).mono fun e w' ⟨g, e1, e2, e3⟩ => ⟨g, 2, e1, Nat.le_refl _, e2, e3⟩
  · exact (cmdWords_5 j n a b c w ht hk).mono fun e w' ⟨g, e1, e2, e3⟩ => ⟨g, 2, e1, Nat.le_refl _, e2, e3⟩
  · exact (cmdWords_6 j n a b c w ht hk).mono fun e w' ⟨g, e1, e2, e3⟩ => ⟨g, 2, e1, Nat.le_refl _, e2, e3⟩
  · exact (cmdWords_7 j n a b c w ht hk).mono fun e w' ⟨g, e1, e2, e3⟩ => ⟨g, 2, e1, Nat.le_refl _, e2, e3⟩

set_option maxHeartbeats 2000000 in
set_option maxRecDepth 100000 in
theorem implCmdText_c (s : Int) (j : Jb) (n a b c : Int) (w : World) (ht : Tab w) (hk : KwT w) : Calls Tryd.prog 7 #[.agg #[.int .i64 s, .int .i64 j.id, .int .i64 j.pr, .int .i64 j.nd, .int .i64 j.na, .int .i64 j.nb, .int .i64 j.nc, .int .i64 j.la, .int .i64 j.lb, .int .i64 j.lc, .int .i64 j.wl, .int .i64 j.lv, .int .i64 n, .int .i64 a, .int .i64 b, .int .i64 c]] w fun e w' => e = .returned (.string ⟨(ctL s j n a b c).toArray⟩) ∧ Below w.heap.size w w' := by
  have HT : Hid (Tab w) := ht
  have HK : Hid (KwT w) := hk
  clear ht hk
  have hcd := implCmdOk_c s j n a b c
  cases h : cmdB s j n a b c
  · have HE : Hid (ctL s j n a b c = []) := by show _ = _; rw [ctL, h]; rfl
    rw [h] at hcd
    have HC : Hid (∀ w : World, Calls Tryd.prog 24 #[.agg #[.int .i64 s, .int .i64 j.id, .int .i64 j.pr, .int .i64 j.nd, .int .i64 j.na, .int .i64 j.nb, .int .i64 j.nc, .int .i64 j.la, .int .i64 j.lb, .int .i64 j.lc, .int .i64 j.wl, .int .i64 j.lv, .int .i64 n, .int .i64 a, .int .i64 b, .int .i64 c]] w fun e w' => e = .returned (.bool false) ∧ Below w.heap.size w w') := hcd
    clear hcd h
    go_enter Tryd.func7, Tryd.ntmps7
    go_wp2_with (refine stay_load 28 ?_)
    refine ⟨?_⟩
    have HR : Hid (Row (w.alloc (.cells #[.int .i64 s, .int .i64 j.id, .int .i64 j.pr, .int .i64 j.nd, .int .i64 j.na, .int .i64 j.nb, .int .i64 j.nc, .int .i64 j.la, .int .i64 j.lb, .int .i64 j.lc, .int .i64 j.wl, .int .i64 j.lv, .int .i64 n, .int .i64 a, .int .i64 b, .int .i64 c] 28)) w.heap.size [.int .i64 s, .int .i64 j.id, .int .i64 j.pr, .int .i64 j.nd, .int .i64 j.na, .int .i64 j.nb, .int .i64 j.nc, .int .i64 j.la, .int .i64 j.lb, .int .i64 j.lc, .int .i64 j.wl, .int .i64 j.lv, .int .i64 n, .int .i64 a, .int .i64 b, .int .i64 c]) := row_fresh w [.int .i64 s, .int .i64 j.id, .int .i64 j.pr, .int .i64 j.nd, .int .i64 j.na, .int .i64 j.nb, .int .i64 j.nc, .int .i64 j.la, .int .i64 j.lb, .int .i64 j.lc, .int .i64 j.wl, .int .i64 j.lv, .int .i64 n, .int .i64 a, .int .i64 b, .int .i64 c] 28
    have HB : Hid (Below w.heap.size w (w.alloc (.cells #[.int .i64 s, .int .i64 j.id, .int .i64 j.pr, .int .i64 j.nd, .int .i64 j.na, .int .i64 j.nb, .int .i64 j.nc, .int .i64 j.la, .int .i64 j.lb, .int .i64 j.lc, .int .i64 j.wl, .int .i64 j.lv, .int .i64 n, .int .i64 a, .int .i64 b, .int .i64 c] 28))) := low_alloc _ _
    generalize w.alloc (.cells #[.int .i64 s, .int .i64 j.id, .int .i64 j.pr, .int .i64 j.nd, .int .i64 j.na, .int .i64 j.nb, .int .i64 j.nc, .int .i64 j.la, .int .i64 j.lb, .int .i64 j.lc, .int .i64 j.wl, .int .i64 j.lv, .int .i64 n, .int .i64 a, .int .i64 b, .int .i64 c] 28) = w0 at HR HB ⊢
    refine wpList_load_mid rfl 28 _ rfl w.heap.size 0 rfl [.int .i64 s, .int .i64 j.id, .int .i64 j.pr, .int .i64 j.nd, .int .i64 j.na, .int .i64 j.nb, .int .i64 j.nc, .int .i64 j.la, .int .i64 j.lb, .int .i64 j.lc, .int .i64 j.wl, .int .i64 j.lv, .int .i64 n, .int .i64 a, .int .i64 b, .int .i64 c] _ HR.out.all Tryd.underlying28 rfl szCmdS ?_
    go_wp2_with fail
    refine (HC.out _).mono ?_
    rintro e w1 ⟨rfl, hb⟩
    have HB1 : Hid (Below w.heap.size w w1) := below_then HB.out hb
    clear hb HR HB
    go_wp2_with fail
    go_ret
    exact ⟨by rw [HE.out]; rfl, HB1.out⟩
  · have HE : Hid (ctL s j n a b c = Lib.join (cwL s j n a b c) [32]) := by show _ = _; rw [ctL, h]; rfl
    have HW : Hid (∀ w : World, Tab w → KwT w → Calls Tryd.prog 26 #[.agg #[.int .i64 s, .int .i64 j.id, .int .i64 j.pr, .int .i64 j.nd, .int .i64 j.na, .int .i64 j.nb, .int .i64 j.nc, .int .i64 j.la, .int .i64 j.lb, .int .i64 j.lc, .int .i64 j.wl, .int .i64 j.lv, .int .i64 n, .int .i64 a, .int .i64 b, .int .i64 c]] w fun e w' => ∃ g cap, e = .returned (.slice (some ⟨g, 0, none⟩) (cwL s j n a b c).length cap) ∧ (cwL s j n a b c).length ≤ cap ∧ Row w' g (strs (cwL s j n a b c)) ∧ Below w.heap.size w w') := fun w => cmdWords_c s j n a b c w h
    have HL := cw_len s j n a b c
    have HN := cw_few s j n a b c
    have HJ : Hid (∀ (g cap : Nat) (w : World), Row w g (strs (cwL s j n a b c)) → (cwL s j n a b c).length ≤ cap → Calls Tryd.prog 25 #[.slice (some ⟨g, 0, none⟩) (cwL s j n a b c).length cap, .string ⟨#[32]⟩] w fun e w' => e = .returned (.string ⟨(Lib.join (cwL s j n a b c) [32]).toArray⟩) ∧ Below w.heap.size w w') := fun g cap w hr hc => join_c g cap _ w hr HN hc (by omega)
    rw [h] at hcd
    have HC : Hid (∀ w : World, Calls Tryd.prog 24 #[.agg #[.int .i64 s, .int .i64 j.id, .int .i64 j.pr, .int .i64 j.nd, .int .i64 j.na, .int .i64 j.nb, .int .i64 j.nc, .int .i64 j.la, .int .i64 j.lb, .int .i64 j.lc, .int .i64 j.wl, .int .i64 j.lv, .int .i64 n, .int .i64 a, .int .i64 b, .int .i64 c]] w fun e w' => e = .returned (.bool true) ∧ Below w.heap.size w w') := hcd
    clear hcd h HL HN
    generalize Lib.join (cwL s j n a b c) [32] = tx at HE HJ
    generalize cwL s j n a b c = ws at HW HJ
    generalize hT : (⟨(ctL s j n a b c).toArray⟩ : ByteArray) = T
    have HE2 : Hid ((⟨tx.toArray⟩ : ByteArray) = T) := by show _ = _; rw [← hT, HE.out]
    rw [HE2.out] at HJ
    clear hT HE HE2
    go_enter Tryd.func7, Tryd.ntmps7
    go_wp2_with (refine stay_load 28 ?_)
    refine ⟨?_⟩
    have HR : Hid (Row (w.alloc (.cells #[.int .i64 s, .int .i64 j.id, .int .i64 j.pr, .int .i64 j.nd, .int .i64 j.na, .int .i64 j.nb, .int .i64 j.nc, .int .i64 j.la, .int .i64 j.lb, .int .i64 j.lc, .int .i64 j.wl, .int .i64 j.lv, .int .i64 n, .int .i64 a, .int .i64 b, .int .i64 c] 28)) w.heap.size [.int .i64 s, .int .i64 j.id, .int .i64 j.pr, .int .i64 j.nd, .int .i64 j.na, .int .i64 j.nb, .int .i64 j.nc, .int .i64 j.la, .int .i64 j.lb, .int .i64 j.lc, .int .i64 j.wl, .int .i64 j.lv, .int .i64 n, .int .i64 a, .int .i64 b, .int .i64 c]) := row_fresh w [.int .i64 s, .int .i64 j.id, .int .i64 j.pr, .int .i64 j.nd, .int .i64 j.na, .int .i64 j.nb, .int .i64 j.nc, .int .i64 j.la, .int .i64 j.lb, .int .i64 j.lc, .int .i64 j.wl, .int .i64 j.lv, .int .i64 n, .int .i64 a, .int .i64 b, .int .i64 c] 28
    have HB : Hid (Below w.heap.size w (w.alloc (.cells #[.int .i64 s, .int .i64 j.id, .int .i64 j.pr, .int .i64 j.nd, .int .i64 j.na, .int .i64 j.nb, .int .i64 j.nc, .int .i64 j.la, .int .i64 j.lb, .int .i64 j.lc, .int .i64 j.wl, .int .i64 j.lv, .int .i64 n, .int .i64 a, .int .i64 b, .int .i64 c] 28))) := low_alloc _ _
    generalize w.alloc (.cells #[.int .i64 s, .int .i64 j.id, .int .i64 j.pr, .int .i64 j.nd, .int .i64 j.na, .int .i64 j.nb, .int .i64 j.nc, .int .i64 j.la, .int .i64 j.lb, .int .i64 j.lc, .int .i64 j.wl, .int .i64 j.lv, .int .i64 n, .int .i64 a, .int .i64 b, .int .i64 c] 28) = w0 at HR HB ⊢
    refine wpList_load_mid rfl 28 _ rfl w.heap.size 0 rfl [.int .i64 s, .int .i64 j.id, .int .i64 j.pr, .int .i64 j.nd, .int .i64 j.na, .int .i64 j.nb, .int .i64 j.nc, .int .i64 j.la, .int .i64 j.lb, .int .i64 j.lc, .int .i64 j.wl, .int .i64 j.lv, .int .i64 n, .int .i64 a, .int .i64 b, .int .i64 c] _ HR.out.all Tryd.underlying28 rfl szCmdS ?_
    go_wp2_with fail
    refine (HC.out _).mono ?_
    rintro e w1 ⟨rfl, hb⟩
    have HR1 : Hid (Row w1 w.heap.size [.int .i64 s, .int .i64 j.id, .int .i64 j.pr, .int .i64 j.nd, .int .i64 j.na, .int .i64 j.nb, .int .i64 j.nc, .int .i64 j.la, .int .i64 j.lb, .int .i64 j.lc, .int .i64 j.wl, .int .i64 j.lv, .int .i64 n, .int .i64 a, .int .i64 b, .int .i64 c]) := HR.out.below hb
    have HB1 : Hid (Below w.heap.size w w1) := below_then HB.out hb
    clear hb HR HB HC
    go_wp2_with (refine stay_load 28 ?_)
    refine ⟨?_⟩
    refine wpList_load_mid rfl 28 _ rfl w.heap.size 0 rfl [.int .i64 s, .int .i64 j.id, .int .i64 j.pr, .int .i64 j.nd, .int .i64 j.na, .int .i64 j.nb, .int .i64 j.nc, .int .i64 j.la, .int .i64 j.lb, .int .i64 j.lc, .int .i64 j.wl, .int .i64 j.lv, .int .i64 n, .int .i64 a, .int .i64 b, .int .i64 c] _ HR1.out.all Tryd.underlying28 rfl szCmdS ?_
    go_wp2_with fail
    refine (HW.out _ (HT.out.on HB1.out) (HK.out.on HB1.out)).mono ?_
    rintro e w2 ⟨g, cap, rfl, hcap, hr, hb⟩
    have HB2 : Hid (Below w.heap.size w w2) := below_then HB1.out hb
    have HR2 : Hid (Row w2 g (strs ws)) := hr
    have HCap : Hid (ws.length ≤ cap) := hcap
    clear hb hr hcap HR1 HB1
    go_wp2_with fail
    refine (HJ.out g cap _ HR2.out HCap.out).mono ?_
    rintro e w3 ⟨rfl, hb⟩
    have HB3 : Hid (Below w.heap.size w w3) := below_then HB2.out hb
    clear hb HB2 HR2
    go_wp2_with fail
    go_ret
    exact ⟨rfl, HB3.out⟩

set_option maxHeartbeats 2000000 in
set_option maxRecDepth 100000 in
theorem specCmdText_c (s : Int) (j : Jb) (n a b c : Int) (w : World) : Calls Tryd.prog 47 #[.agg #[.int .i64 s, .int .i64 j.id, .int .i64 j.pr, .int .i64 j.nd, .int .i64 j.na, .int .i64 j.nb, .int .i64 j.nc, .int .i64 j.la, .int .i64 j.lb, .int .i64 j.lc, .int .i64 j.wl, .int .i64 j.lv, .int .i64 n, .int .i64 a, .int .i64 b, .int .i64 c]] w fun e w' => e = .returned (.string ⟨(ctL s j n a b c).toArray⟩) ∧ Below w.heap.size w w' := by
  cases h : cmdB s j n a b c
  · have HE : Hid (ctL s j n a b c = []) := by show _ = _; rw [ctL, h]; rfl
    have hcd := specCmdOk_c s j n a b c
    rw [h] at hcd
    have HC : Hid (∀ w : World, Calls Tryd.prog 8 #[.agg #[.int .i64 s, .int .i64 j.id, .int .i64 j.pr, .int .i64 j.nd, .int .i64 j.na, .int .i64 j.nb, .int .i64 j.nc, .int .i64 j.la, .int .i64 j.lb, .int .i64 j.lc, .int .i64 j.wl, .int .i64 j.lv, .int .i64 n, .int .i64 a, .int .i64 b, .int .i64 c]] w fun e w' => e = .returned (.bool false) ∧ Below w.heap.size w w') := hcd
    clear hcd h
    go_enter Tryd.func47, Tryd.ntmps47
    go_wp2_with (refine stay_load 28 ?_)
    refine ⟨?_⟩
    have HR : Hid (Row (w.alloc (.cells #[.int .i64 s, .int .i64 j.id, .int .i64 j.pr, .int .i64 j.nd, .int .i64 j.na, .int .i64 j.nb, .int .i64 j.nc, .int .i64 j.la, .int .i64 j.lb, .int .i64 j.lc, .int .i64 j.wl, .int .i64 j.lv, .int .i64 n, .int .i64 a, .int .i64 b, .int .i64 c] 28)) w.heap.size [.int .i64 s, .int .i64 j.id, .int .i64 j.pr, .int .i64 j.nd, .int .i64 j.na, .int .i64 j.nb, .int .i64 j.nc, .int .i64 j.la, .int .i64 j.lb, .int .i64 j.lc, .int .i64 j.wl, .int .i64 j.lv, .int .i64 n, .int .i64 a, .int .i64 b, .int .i64 c]) := row_fresh w [.int .i64 s, .int .i64 j.id, .int .i64 j.pr, .int .i64 j.nd, .int .i64 j.na, .int .i64 j.nb, .int .i64 j.nc, .int .i64 j.la, .int .i64 j.lb, .int .i64 j.lc, .int .i64 j.wl, .int .i64 j.lv, .int .i64 n, .int .i64 a, .int .i64 b, .int .i64 c] 28
    have HB : Hid (Below w.heap.size w (w.alloc (.cells #[.int .i64 s, .int .i64 j.id, .int .i64 j.pr, .int .i64 j.nd, .int .i64 j.na, .int .i64 j.nb, .int .i64 j.nc, .int .i64 j.la, .int .i64 j.lb, .int .i64 j.lc, .int .i64 j.wl, .int .i64 j.lv, .int .i64 n, .int .i64 a, .int .i64 b, .int .i64 c] 28))) := low_alloc _ _
    generalize w.alloc (.cells #[.int .i64 s, .int .i64 j.id, .int .i64 j.pr, .int .i64 j.nd, .int .i64 j.na, .int .i64 j.nb, .int .i64 j.nc, .int .i64 j.la, .int .i64 j.lb, .int .i64 j.lc, .int .i64 j.wl, .int .i64 j.lv, .int .i64 n, .int .i64 a, .int .i64 b, .int .i64 c] 28) = w0 at HR HB ⊢
    refine wpList_load_mid rfl 28 _ rfl w.heap.size 0 rfl [.int .i64 s, .int .i64 j.id, .int .i64 j.pr, .int .i64 j.nd, .int .i64 j.na, .int .i64 j.nb, .int .i64 j.nc, .int .i64 j.la, .int .i64 j.lb, .int .i64 j.lc, .int .i64 j.wl, .int .i64 j.lv, .int .i64 n, .int .i64 a, .int .i64 b, .int .i64 c] _ HR.out.all Tryd.underlying28 rfl szCmdS ?_
    go_wp2_with fail
    refine (HC.out _).mono ?_
    rintro e w1 ⟨rfl, hb⟩
    have HB1 : Hid (Below w.heap.size w w1) := below_then HB.out hb
    clear hb HR HB
    go_wp2_with fail
    go_ret
    exact ⟨by rw [HE.out]; rfl, HB1.out⟩
  · rw [show ctL s j n a b c = Lib.join (cwL s j n a b c) [32] by rw [ctL, h]; rfl]
    have h7 := cmdB_seven h
    rcases h7 with rfl | rfl | rfl | rfl | rfl | rfl | rfl
    · exact specCmdText_1 j n a b c w h
    · exact specCmdText_2 j n a b c w h
    · exact specCmdText_3 j n a b c w h
    · exact specCmdText_4 j n a b c w h
    · exact specCmdText_5 j n a b c w h
    · exact specCmdText_6 j n a b c w h
    · exact specCmdText_7 j n a b c w h
end Go.Proofs.YtejleghdgdbbnaaDoor
