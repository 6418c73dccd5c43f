/- FnStep: the walk. -/
import Derived.Test.YtejleghdgdbbnaaGreatDoorMgXc
import Derived.Test.YtejleghdgdbbnaaGreatDoorMgUi
import Derived.Test.YtejleghdgdbbnaaGreatDoorMgUh
import Derived.Test.YtejleghdgdbbnaaGreatDoorMgXd
namespace Go.Proofs.YtejleghdgdbbnaaGreatDoor
open Go.ChangeShapes Go.WideShapes Go.ChangeAt Go.RowKit

theorem seq_self (k : Int) (x : Cm) (p : Int) (W : World) : (Op.equalIn 10000 30 (.agg #[.int .i64 k, .int .i64 x.s, .int .i64 x.j.id, .int .i64 x.j.pr, .int .i64 x.j.nd, .int .i64 x.j.na, .int .i64 x.j.nb, .int .i64 x.j.nc, .int .i64 x.j.la, .int .i64 x.j.lb, .int .i64 x.j.lc, .int .i64 x.j.wl, .int .i64 x.j.lv, .int .i64 x.n, .int .i64 x.a, .int .i64 x.b, .int .i64 x.c, .int .i64 p]) (.agg #[.int .i64 k, .int .i64 x.s, .int .i64 x.j.id, .int .i64 x.j.pr, .int .i64 x.j.nd, .int .i64 x.j.na, .int .i64 x.j.nb, .int .i64 x.j.nc, .int .i64 x.j.la, .int .i64 x.j.lb, .int .i64 x.j.lc, .int .i64 x.j.wl, .int .i64 x.j.lv, .int .i64 x.n, .int .i64 x.a, .int .i64 x.b, .int .i64 x.c, .int .i64 p])).run Tryz.prog W = .ok true W := by
  have h := eq_step 9995 k x p k x p W
  rw [show [k == k, ceB x.s x.j x.n x.a x.b x.c x.s x.j x.n x.a x.b x.c, p == p].all id = true by simp [ceB, jeB_self, veB_self]] at h
  exact h
theorem stL_len (k : Int) (x : Cm) (p : Int) : (stL k x p).length ≤ 600 := by
  have h1 := ct_len x
  have h2 := numL_len p
  unfold stL
  cases stB k x p
  · exact Nat.zero_le _
  · simp only [cond_true]
    split
    · simp only [List.length_append, List.length_cons, List.length_nil]; omega
    · split
      · simp only [List.length_append, List.length_cons, List.length_nil]; omega
      · split <;> simp
set_option maxHeartbeats 4000000 in
set_option maxRecDepth 100000 in
theorem fnStep_walk (pp : Option Addr) (n cap : Nat) (w : World) (hn : n ≤ maxLen) (hc : n ≤ 1048576 → CodeIs w pp n) (hs : StT w) (hk : KwT w) (env : Env w) :
    Calls Tryz.prog 3 #[.slice pp n cap] w fun e w' => e = .returned (.bool true) ∧ Below w.heap.size w w' := by
  have HE : Hid (Env w) := env
  have HK : Hid (KwT w) := hk
  have HS : Hid (StT w) := hs
  clear env hk hs
  by_cases hl : 1048576 < n
  · unfold maxLen at hn
    clear hc
    go_enter Tryz.func3, Tryz.ntmps3
    go_wp2_with fail
    go_ret
    exact ⟨rfl, by go_grown⟩
  · have hl' : n ≤ 1048576 := by omega
    have H : Hid (CodeIs w pp n) := hc hl'
    clear hc hl hn
    go_enter Tryz.func3, Tryz.ntmps3
    go_wp2_with fail
    refine (drawStepText_c pp n cap _ H.out).mono ?_
    rintro e w1 ⟨k, x, p, rfl, hb⟩
    have HB : Hid (Below w.heap.size w w1) := hb
    clear hb H
    have hq := HB.out.size
    go_wp2_with (refine stay_store 30 ?_)
    refine ⟨?_⟩
    have HZ : Hid (Row (w1.alloc (.cells #[.int .i64 0, .int .i64 0, .int .i64 0, .int .i64 0, .int .i64 0, .int .i64 0, .int .i64 0, .int .i64 0, .int .i64 0, .int .i64 0, .int .i64 0, .int .i64 0, .int .i64 0, .int .i64 0, .int .i64 0, .int .i64 0, .int .i64 0, .int .i64 0] 30)) w1.heap.size [.int .i64 0, .int .i64 0, .int .i64 0, .int .i64 0, .int .i64 0, .int .i64 0, .int .i64 0, .int .i64 0, .int .i64 0, .int .i64 0, .int .i64 0, .int .i64 0, .int .i64 0, .int .i64 0, .int .i64 0, .int .i64 0, .int .i64 0, .int .i64 0]) := row_new w1 [.int .i64 0, .int .i64 0, .int .i64 0, .int .i64 0, .int .i64 0, .int .i64 0, .int .i64 0, .int .i64 0, .int .i64 0, .int .i64 0, .int .i64 0, .int .i64 0, .int .i64 0, .int .i64 0, .int .i64 0, .int .i64 0, .int .i64 0, .int .i64 0] 30
    replace HB : Hid (Below w.heap.size w (w1.alloc (.cells #[.int .i64 0, .int .i64 0, .int .i64 0, .int .i64 0, .int .i64 0, .int .i64 0, .int .i64 0, .int .i64 0, .int .i64 0, .int .i64 0, .int .i64 0, .int .i64 0, .int .i64 0, .int .i64 0, .int .i64 0, .int .i64 0, .int .i64 0, .int .i64 0] 30))) := behind_alloc HB.out _
    generalize w1.alloc (.cells #[.int .i64 0, .int .i64 0, .int .i64 0, .int .i64 0, .int .i64 0, .int .i64 0, .int .i64 0, .int .i64 0, .int .i64 0, .int .i64 0, .int .i64 0, .int .i64 0, .int .i64 0, .int .i64 0, .int .i64 0, .int .i64 0, .int .i64 0, .int .i64 0] 30) = u0 at HZ HB ⊢
    generalize w1.heap.size = q at HZ hq ⊢
    refine wpList_store_mid rfl 30 _ _ rfl q 0 #[.int .i64 k, .int .i64 x.s, .int .i64 x.j.id, .int .i64 x.j.pr, .int .i64 x.j.nd, .int .i64 x.j.na, .int .i64 x.j.nb, .int .i64 x.j.nc, .int .i64 x.j.la, .int .i64 x.j.lb, .int .i64 x.j.lc, .int .i64 x.j.wl, .int .i64 x.j.lv, .int .i64 x.n, .int .i64 x.a, .int .i64 x.b, .int .i64 x.c, .int .i64 p] rfl rfl (HZ.out.room 0 18 (by simp)) szStep (by simp [Value.oneCell']) ?_
    have HX : Hid (Row (u0.setCells q 0 [.int .i64 k, .int .i64 x.s, .int .i64 x.j.id, .int .i64 x.j.pr, .int .i64 x.j.nd, .int .i64 x.j.na, .int .i64 x.j.nb, .int .i64 x.j.nc, .int .i64 x.j.la, .int .i64 x.j.lb, .int .i64 x.j.lc, .int .i64 x.j.wl, .int .i64 x.j.lv, .int .i64 x.n, .int .i64 x.a, .int .i64 x.b, .int .i64 x.c, .int .i64 p]) q [.int .i64 k, .int .i64 x.s, .int .i64 x.j.id, .int .i64 x.j.pr, .int .i64 x.j.nd, .int .i64 x.j.na, .int .i64 x.j.nb, .int .i64 x.j.nc, .int .i64 x.j.la, .int .i64 x.j.lb, .int .i64 x.j.lc, .int .i64 x.j.wl, .int .i64 x.j.lv, .int .i64 x.n, .int .i64 x.a, .int .i64 x.b, .int .i64 x.c, .int .i64 p]) := HZ.out.setCs [.int .i64 k, .int .i64 x.s, .int .i64 x.j.id, .int .i64 x.j.pr, .int .i64 x.j.nd, .int .i64 x.j.na, .int .i64 x.j.nb, .int .i64 x.j.nc, .int .i64 x.j.la, .int .i64 x.j.lb, .int .i64 x.j.lc, .int .i64 x.j.wl, .int .i64 x.j.lv, .int .i64 x.n, .int .i64 x.a, .int .i64 x.b, .int .i64 x.c, .int .i64 p] 0 (by simp)
    replace HB : Hid (Below w.heap.size w (u0.setCells q 0 [.int .i64 k, .int .i64 x.s, .int .i64 x.j.id, .int .i64 x.j.pr, .int .i64 x.j.nd, .int .i64 x.j.na, .int .i64 x.j.nb, .int .i64 x.j.nc, .int .i64 x.j.la, .int .i64 x.j.lb, .int .i64 x.j.lc, .int .i64 x.j.wl, .int .i64 x.j.lv, .int .i64 x.n, .int .i64 x.a, .int .i64 x.b, .int .i64 x.c, .int .i64 p])) := below_setCs hq _ _ HB.out
    show wpList _ _ _ _ _ (u0.setCells q 0 [.int .i64 k, .int .i64 x.s, .int .i64 x.j.id, .int .i64 x.j.pr, .int .i64 x.j.nd, .int .i64 x.j.na, .int .i64 x.j.nb, .int .i64 x.j.nc, .int .i64 x.j.la, .int .i64 x.j.lb, .int .i64 x.j.lc, .int .i64 x.j.wl, .int .i64 x.j.lv, .int .i64 x.n, .int .i64 x.a, .int .i64 x.b, .int .i64 x.c, .int .i64 p])
    generalize u0.setCells q 0 [.int .i64 k, .int .i64 x.s, .int .i64 x.j.id, .int .i64 x.j.pr, .int .i64 x.j.nd, .int .i64 x.j.na, .int .i64 x.j.nb, .int .i64 x.j.nc, .int .i64 x.j.la, .int .i64 x.j.lb, .int .i64 x.j.lc, .int .i64 x.j.wl, .int .i64 x.j.lv, .int .i64 x.n, .int .i64 x.a, .int .i64 x.b, .int .i64 x.c, .int .i64 p] = u1 at HX HB ⊢
    clear HZ
    obtain ⟨cs, hcs⟩ : ∃ cs : List Value, cs = [.int .i64 k, .int .i64 x.s, .int .i64 x.j.id, .int .i64 x.j.pr, .int .i64 x.j.nd, .int .i64 x.j.na, .int .i64 x.j.nb, .int .i64 x.j.nc, .int .i64 x.j.la, .int .i64 x.j.lb, .int .i64 x.j.lc, .int .i64 x.j.wl, .int .i64 x.j.lv, .int .i64 x.n, .int .i64 x.a, .int .i64 x.b, .int .i64 x.c, .int .i64 p] := ⟨_, rfl⟩
    have HC : Hid (cs = [.int .i64 k, .int .i64 x.s, .int .i64 x.j.id, .int .i64 x.j.pr, .int .i64 x.j.nd, .int .i64 x.j.na, .int .i64 x.j.nb, .int .i64 x.j.nc, .int .i64 x.j.la, .int .i64 x.j.lb, .int .i64 x.j.lc, .int .i64 x.j.wl, .int .i64 x.j.lv, .int .i64 x.n, .int .i64 x.a, .int .i64 x.b, .int .i64 x.c, .int .i64 p]) := hcs
    have hsz : (Tryz.prog.info? 30).map (·.size) = some cs.length := by rw [hcs]; exact szStep
    have HSZ : Hid ((Tryz.prog.info? 30).map (·.size) = some cs.length) := hsz
    have HIT : Hid (∀ W : World, StT W → Tab W → KwT W → Calls Tryz.prog 6 #[.agg cs.toArray] W fun e w' => e = .returned (.string ⟨(stL k x p).toArray⟩) ∧ Below W.heap.size W w') := fun W a b c => by rw [hcs]; exact implStepText_c k x p W a b c
    have HCO : Hid (∀ W : World, Calls Tryz.prog 7 #[.agg cs.toArray] W fun e w' => e = .returned (.string ⟨(stL k x p).toArray⟩) ∧ Below W.heap.size W w') := fun W => by rw [hcs]; exact specStepText_c k x p W
    have HEQ : Hid (∀ W : World, (Op.equalIn 10000 30 (.agg cs.toArray) (.agg cs.toArray)).run Tryz.prog W = .ok true W) := fun W => by rw [hcs]; exact seq_self k x p W
    rw [← hcs] at HX ⊢
    clear hcs hsz hq
    go_wp2_with (refine stay_load 30 ?_)
    refine ⟨?_⟩
    refine wpList_load_mid rfl 30 _ rfl q 0 rfl cs _ HX.out.all Tryz.underlying30 rfl HSZ.out ?_
    go_wp2_with fail
    refine (HIT.out _ (HS.out.on HB.out) (HE.out.on HB.out).1 (HK.out.on HB.out)).mono ?_
    rintro e w2 ⟨rfl, hb⟩
    replace HX : Hid (Row w2 q cs) := HX.out.below hb
    replace HB : Hid (Below w.heap.size w w2) := below_then HB.out hb
    clear hb
    clear HIT
    have hlen := stL_len k x p
    cases hB : stB k x p
    · have e0 : stL k x p = [] := st_no hB
      rw [e0] at HCO ⊢
      have HT : Hid (∀ W : World, StT W → KwT W → Env W → Calls Tryz.prog 8 #[.string ⟨#[]⟩] W fun e w' => e = .returned (.tuple #[.agg #[.int .i64 0, .int .i64 0, .int .i64 0, .int .i64 0, .int .i64 0, .int .i64 0, .int .i64 0, .int .i64 0, .int .i64 0, .int .i64 0, .int .i64 0, .int .i64 0, .int .i64 0, .int .i64 0, .int .i64 0, .int .i64 0, .int .i64 0, .int .i64 0], .bool false]) ∧ Below W.heap.size W w') := fun W hs hk he => implTextStep_c [] (by simp) W hs hk he _ _ _ _ ts_nil
      clear e0 hB hlen
      go_wp2_with (refine stay_load 30 ?_)
      refine ⟨?_⟩
      refine wpList_load_mid rfl 30 _ rfl q 0 rfl cs _ HX.out.all Tryz.underlying30 rfl HSZ.out ?_
      go_wp2_with fail
      refine (HCO.out _).mono ?_
      rintro e w3 ⟨rfl, hb⟩
      replace HX : Hid (Row w3 q cs) := HX.out.below hb
      replace HB : Hid (Below w.heap.size w w3) := below_then HB.out hb
      clear hb HCO
      have hi : (⟨([] : List UInt8).toArray⟩ : ByteArray).toList.isEmpty = true := by rw [ba_toL]; rfl
      go_wp2_with fail
      refine (HT.out _ (HS.out.on HB.out) (HK.out.on HB.out) (HE.out.on HB.out)).mono ?_
      rintro e w4 ⟨rfl, hb⟩
      replace HB : Hid (Below w.heap.size w w4) := below_then HB.out hb
      clear hb HX HT
      go_wp2_with fail
      go_ret
      exact ⟨rfl, behind_alloc HB.out _⟩
    · have hag := ts_again hB
      have hne := stL_ne hB
      clear hB
      generalize stL k x p = l at hag hne hlen HCO ⊢
      have HT0 : Hid (∀ W : World, StT W → KwT W → Env W → Calls Tryz.prog 8 #[.string ⟨l.toArray⟩] W fun e w' => e = .returned (.tuple #[.agg #[.int .i64 k, .int .i64 x.s, .int .i64 x.j.id, .int .i64 x.j.pr, .int .i64 x.j.nd, .int .i64 x.j.na, .int .i64 x.j.nb, .int .i64 x.j.nc, .int .i64 x.j.la, .int .i64 x.j.lb, .int .i64 x.j.lc, .int .i64 x.j.wl, .int .i64 x.j.lv, .int .i64 x.n, .int .i64 x.a, .int .i64 x.b, .int .i64 x.c, .int .i64 p], .bool true]) ∧ Below W.heap.size W w') := fun W hs hk he => implTextStep_c l (by omega) W hs hk he _ _ _ _ hag
      have hi0 : (⟨l.toArray⟩ : ByteArray).toList.isEmpty = false := by rw [ba_toL]; cases l with
        | nil => exact absurd rfl hne
        | cons _ _ => rfl
      clear hag hne hlen
      generalize (⟨l.toArray⟩ : ByteArray) = S at HT0 hi0 HCO ⊢
      have HT := HT0
      have hi := hi0
      clear HT0 hi0
      go_wp2_with (refine stay_load 30 ?_)
      refine ⟨?_⟩
      refine wpList_load_mid rfl 30 _ rfl q 0 rfl cs _ HX.out.all Tryz.underlying30 rfl HSZ.out ?_
      go_wp2_with fail
      refine (HCO.out _).mono ?_
      rintro e w3 ⟨rfl, hb⟩
      replace HX : Hid (Row w3 q cs) := HX.out.below hb
      replace HB : Hid (Below w.heap.size w w3) := below_then HB.out hb
      clear hb HCO
      go_wp2_with fail
      refine (HT.out _ (HS.out.on HB.out) (HK.out.on HB.out) (HE.out.on HB.out)).mono ?_
      rintro e w4 ⟨rfl, hb⟩
      replace HB : Hid (Below w.heap.size w w4) := below_then HB.out hb
      replace HX : Hid (Row w4 q cs) := HX.out.below hb
      have hq := HB.out.size
      have hq4 : q ≠ w4.heap.size := Nat.ne_of_lt HX.out.lt
      clear hb HT
      go_wp2_with (refine stay_store 30 ?_)
      refine ⟨?_⟩
      have HZ : Hid (Row (w4.alloc (.cells #[.int .i64 0, .int .i64 0, .int .i64 0, .int .i64 0, .int .i64 0, .int .i64 0, .int .i64 0, .int .i64 0, .int .i64 0, .int .i64 0, .int .i64 0, .int .i64 0, .int .i64 0, .int .i64 0, .int .i64 0, .int .i64 0, .int .i64 0, .int .i64 0] 30)) w4.heap.size [.int .i64 0, .int .i64 0, .int .i64 0, .int .i64 0, .int .i64 0, .int .i64 0, .int .i64 0, .int .i64 0, .int .i64 0, .int .i64 0, .int .i64 0, .int .i64 0, .int .i64 0, .int .i64 0, .int .i64 0, .int .i64 0, .int .i64 0, .int .i64 0]) := row_new w4 [.int .i64 0, .int .i64 0, .int .i64 0, .int .i64 0, .int .i64 0, .int .i64 0, .int .i64 0, .int .i64 0, .int .i64 0, .int .i64 0, .int .i64 0, .int .i64 0, .int .i64 0, .int .i64 0, .int .i64 0, .int .i64 0, .int .i64 0, .int .i64 0] 30
      replace HB : Hid (Below w.heap.size w (w4.alloc (.cells #[.int .i64 0, .int .i64 0, .int .i64 0, .int .i64 0, .int .i64 0, .int .i64 0, .int .i64 0, .int .i64 0, .int .i64 0, .int .i64 0, .int .i64 0, .int .i64 0, .int .i64 0, .int .i64 0, .int .i64 0, .int .i64 0, .int .i64 0, .int .i64 0] 30))) := behind_alloc HB.out _
      replace HX : Hid (Row (w4.alloc (.cells #[.int .i64 0, .int .i64 0, .int .i64 0, .int .i64 0, .int .i64 0, .int .i64 0, .int .i64 0, .int .i64 0, .int .i64 0, .int .i64 0, .int .i64 0, .int .i64 0, .int .i64 0, .int .i64 0, .int .i64 0, .int .i64 0, .int .i64 0, .int .i64 0] 30)) q cs) := HX.out.below (low_alloc _ _)
      generalize w4.alloc (.cells #[.int .i64 0, .int .i64 0, .int .i64 0, .int .i64 0, .int .i64 0, .int .i64 0, .int .i64 0, .int .i64 0, .int .i64 0, .int .i64 0, .int .i64 0, .int .i64 0, .int .i64 0, .int .i64 0, .int .i64 0, .int .i64 0, .int .i64 0, .int .i64 0] 30) = u3 at HZ HB HX ⊢
      generalize w4.heap.size = q4 at HZ hq hq4 ⊢
      refine wpList_store_mid rfl 30 _ _ rfl q4 0 #[.int .i64 k, .int .i64 x.s, .int .i64 x.j.id, .int .i64 x.j.pr, .int .i64 x.j.nd, .int .i64 x.j.na, .int .i64 x.j.nb, .int .i64 x.j.nc, .int .i64 x.j.la, .int .i64 x.j.lb, .int .i64 x.j.lc, .int .i64 x.j.wl, .int .i64 x.j.lv, .int .i64 x.n, .int .i64 x.a, .int .i64 x.b, .int .i64 x.c, .int .i64 p] rfl rfl (HZ.out.room 0 18 (by simp)) szStep (by simp [Value.oneCell']) ?_
      have HD : Hid (Row (u3.setCells q4 0 [.int .i64 k, .int .i64 x.s, .int .i64 x.j.id, .int .i64 x.j.pr, .int .i64 x.j.nd, .int .i64 x.j.na, .int .i64 x.j.nb, .int .i64 x.j.nc, .int .i64 x.j.la, .int .i64 x.j.lb, .int .i64 x.j.lc, .int .i64 x.j.wl, .int .i64 x.j.lv, .int .i64 x.n, .int .i64 x.a, .int .i64 x.b, .int .i64 x.c, .int .i64 p]) q4 [.int .i64 k, .int .i64 x.s, .int .i64 x.j.id, .int .i64 x.j.pr, .int .i64 x.j.nd, .int .i64 x.j.na, .int .i64 x.j.nb, .int .i64 x.j.nc, .int .i64 x.j.la, .int .i64 x.j.lb, .int .i64 x.j.lc, .int .i64 x.j.wl, .int .i64 x.j.lv, .int .i64 x.n, .int .i64 x.a, .int .i64 x.b, .int .i64 x.c, .int .i64 p]) := HZ.out.setCs [.int .i64 k, .int .i64 x.s, .int .i64 x.j.id, .int .i64 x.j.pr, .int .i64 x.j.nd, .int .i64 x.j.na, .int .i64 x.j.nb, .int .i64 x.j.nc, .int .i64 x.j.la, .int .i64 x.j.lb, .int .i64 x.j.lc, .int .i64 x.j.wl, .int .i64 x.j.lv, .int .i64 x.n, .int .i64 x.a, .int .i64 x.b, .int .i64 x.c, .int .i64 p] 0 (by simp)
      replace HB : Hid (Below w.heap.size w (u3.setCells q4 0 [.int .i64 k, .int .i64 x.s, .int .i64 x.j.id, .int .i64 x.j.pr, .int .i64 x.j.nd, .int .i64 x.j.na, .int .i64 x.j.nb, .int .i64 x.j.nc, .int .i64 x.j.la, .int .i64 x.j.lb, .int .i64 x.j.lc, .int .i64 x.j.wl, .int .i64 x.j.lv, .int .i64 x.n, .int .i64 x.a, .int .i64 x.b, .int .i64 x.c, .int .i64 p])) := below_setCs hq _ _ HB.out
      replace HX : Hid (Row (u3.setCells q4 0 [.int .i64 k, .int .i64 x.s, .int .i64 x.j.id, .int .i64 x.j.pr, .int .i64 x.j.nd, .int .i64 x.j.na, .int .i64 x.j.nb, .int .i64 x.j.nc, .int .i64 x.j.la, .int .i64 x.j.lb, .int .i64 x.j.lc, .int .i64 x.j.wl, .int .i64 x.j.lv, .int .i64 x.n, .int .i64 x.a, .int .i64 x.b, .int .i64 x.c, .int .i64 p]) q cs) := HX.out.apartCs hq4 _ _
      show wpList _ _ _ _ _ (u3.setCells q4 0 [.int .i64 k, .int .i64 x.s, .int .i64 x.j.id, .int .i64 x.j.pr, .int .i64 x.j.nd, .int .i64 x.j.na, .int .i64 x.j.nb, .int .i64 x.j.nc, .int .i64 x.j.la, .int .i64 x.j.lb, .int .i64 x.j.lc, .int .i64 x.j.wl, .int .i64 x.j.lv, .int .i64 x.n, .int .i64 x.a, .int .i64 x.b, .int .i64 x.c, .int .i64 p])
      generalize u3.setCells q4 0 [.int .i64 k, .int .i64 x.s, .int .i64 x.j.id, .int .i64 x.j.pr, .int .i64 x.j.nd, .int .i64 x.j.na, .int .i64 x.j.nb, .int .i64 x.j.nc, .int .i64 x.j.la, .int .i64 x.j.lb, .int .i64 x.j.lc, .int .i64 x.j.wl, .int .i64 x.j.lv, .int .i64 x.n, .int .i64 x.a, .int .i64 x.b, .int .i64 x.c, .int .i64 p] = u4 at HX HB HD ⊢
      have heq := HEQ.out
      rw [← HC.out] at HD ⊢
      clear HC HZ hq hq4
      go_wp2_with (refine stay_load 30 ?_)
      refine ⟨?_⟩
      refine wpList_load_mid_w rfl 30 _ rfl q 0 rfl cs _ HX.out.all Tryz.underlying30 rfl HSZ.out ?_
      go_wp2_with (refine stay_load 30 ?_)
      refine ⟨?_⟩
      refine wpList_load_mid_w rfl 30 _ rfl q4 0 rfl cs _ HD.out.all Tryz.underlying30 rfl HSZ.out ?_
      go_wp2_with fail
      go_ret
      exact ⟨rfl, HB.out⟩
end Go.Proofs.YtejleghdgdbbnaaGreatDoor
