/- Jobs: right or not. -/
import Derived.Test.YtmpjebkjopfejaaGreatMzVecC
import Derived.Test.YtmpjebkjopfejaaGreatMgRa

namespace Go.Proofs.YtmpjebkjopfejaaGreat
open Go.ChangeShapes Go.WideShapes Go.ChangeAt Go.RowKit

/-- A job's eleven numbers. -/
structure Jb where
  (id pr nd na nb nc la lb lc wl lv : Int)
def Jb.cells (j : Jb) : List Value := [.int .i64 j.id, .int .i64 j.pr, .int .i64 j.nd, .int .i64 j.na, .int .i64 j.nb, .int .i64 j.nc, .int .i64 j.la, .int .i64 j.lb, .int .i64 j.lc, .int .i64 j.wl, .int .i64 j.lv]
def btwB (lo n hi : Int) : Bool := decide (lo ≤ n) && decide (n ≤ hi)
theorem btw_iff {lo n hi : Int} : btwB lo n hi = true ↔ lo ≤ n ∧ n ≤ hi := by simp [btwB]
theorem btw_no {lo n hi : Int} : btwB lo n hi = false ↔ n < lo ∨ hi < n := by simp [btwB]; omega
/-- A right job. -/
def jobB (j : Jb) : Bool := btwB 1 j.id 999 && (btwB 0 j.pr 999 && (btwB 1 j.nd 24 && (vokB j.na j.nb j.nc && (vokB j.la j.lb j.lc && (btwB 1 j.wl 1000000 && btwB 0 j.lv 24)))))
theorem row_fresh' (w : World) (xs : List Value) (t : TypeId) : Row (w.alloc (.cells xs.toArray t)) w.heap.size xs := row_fresh w xs t

theorem between_c (lo n hi : Int) (w : World) : Calls Tryz.prog 109 #[.int .i64 lo, .int .i64 n, .int .i64 hi] w fun e w' => e = .returned (.bool (btwB lo n hi)) ∧ w' = w := by
  by_cases h0 : lo ≤ n
  · go_enter Tryz.func109, Tryz.ntmps109
    go_wp2
    go_ret
    exact ⟨by simp [btwB, h0], rfl⟩
  · have h1 : btwB lo n hi = false := btw_no.2 (.inl (by omega))
    rw [h1]
    go_enter Tryz.func109, Tryz.ntmps109
    go_wp2
    go_ret
    exact ⟨rfl, rfl⟩

set_option maxHeartbeats 2000000 in
theorem implJobOk_c (j : Jb) (w : World) : Calls Tryz.prog 85 #[.agg #[.int .i64 j.id, .int .i64 j.pr, .int .i64 j.nd, .int .i64 j.na, .int .i64 j.nb, .int .i64 j.nc, .int .i64 j.la, .int .i64 j.lb, .int .i64 j.lc, .int .i64 j.wl, .int .i64 j.lv]] w fun e w' => e = .returned (.bool (jobB j)) ∧ Below w.heap.size w w' := by
  go_enter Tryz.func85, Tryz.ntmps85
  go_wp2_with fail
  have HR : Hid (Row (w.alloc (.cells #[.int .i64 j.id, .int .i64 j.pr, .int .i64 j.nd, .int .i64 j.na, .int .i64 j.nb, .int .i64 j.nc, .int .i64 j.la, .int .i64 j.lb, .int .i64 j.lc, .int .i64 j.wl, .int .i64 j.lv] 52)) w.heap.size [.int .i64 j.id, .int .i64 j.pr, .int .i64 j.nd, .int .i64 j.na, .int .i64 j.nb, .int .i64 j.nc, .int .i64 j.la, .int .i64 j.lb, .int .i64 j.lc, .int .i64 j.wl, .int .i64 j.lv]) := row_fresh w [.int .i64 j.id, .int .i64 j.pr, .int .i64 j.nd, .int .i64 j.na, .int .i64 j.nb, .int .i64 j.nc, .int .i64 j.la, .int .i64 j.lb, .int .i64 j.lc, .int .i64 j.wl, .int .i64 j.lv] 52
  have HB : Hid (Below w.heap.size w (w.alloc (.cells #[.int .i64 j.id, .int .i64 j.pr, .int .i64 j.nd, .int .i64 j.na, .int .i64 j.nb, .int .i64 j.nc, .int .i64 j.la, .int .i64 j.lb, .int .i64 j.lc, .int .i64 j.wl, .int .i64 j.lv] 52))) := low_alloc _ _
  generalize w.alloc (.cells #[.int .i64 j.id, .int .i64 j.pr, .int .i64 j.nd, .int .i64 j.na, .int .i64 j.nb, .int .i64 j.nc, .int .i64 j.la, .int .i64 j.lb, .int .i64 j.lc, .int .i64 j.wl, .int .i64 j.lv] 52) = w0 at HR HB
  refine (between_c 1 j.id 999 _).mono ?_
  rintro e w1 ⟨rfl, rfl⟩
  cases h0 : btwB 1 j.id 999
  · have HN : Hid (jobB j = false) := by show _ = _; simp [jobB, h0]
    go_wp2_with fail
    go_ret
    exact ⟨by rw [HN.out]; rfl, HB.out⟩
  · have c1 := HR.out.cell 1 _ rfl
    go_wp2_with fail
    clear c1
    refine (between_c 0 j.pr 999 _).mono ?_
    rintro e w2 ⟨rfl, rfl⟩
    cases h1 : btwB 0 j.pr 999
    · have HN : Hid (jobB j = false) := by show _ = _; simp [jobB, h0, h1]
      go_wp2_with fail
      go_ret
      exact ⟨by rw [HN.out]; rfl, HB.out⟩
    · have c2 := HR.out.cell 2 _ rfl
      go_wp2_with fail
      clear c2
      refine (between_c 1 j.nd 24 _).mono ?_
      rintro e w3 ⟨rfl, rfl⟩
      cases h2 : btwB 1 j.nd 24
      · have HN : Hid (jobB j = false) := by show _ = _; simp [jobB, h0, h1, h2]
        go_wp2_with fail
        go_ret
        exact ⟨by rw [HN.out]; rfl, HB.out⟩
      · have c3 := HR.out.cell 3 _ rfl
        have c4 := HR.out.cell 4 _ rfl
        have c5 := HR.out.cell 5 _ rfl
        go_wp2_with fail
        clear c3 c4 c5
        refine (implVecOk_c j.na j.nb j.nc _).mono ?_
        rintro e w4 ⟨rfl, hb⟩
        have HR' : Hid (Row w4 w.heap.size [.int .i64 j.id, .int .i64 j.pr, .int .i64 j.nd, .int .i64 j.na, .int .i64 j.nb, .int .i64 j.nc, .int .i64 j.la, .int .i64 j.lb, .int .i64 j.lc, .int .i64 j.wl, .int .i64 j.lv]) := HR.out.below hb
        have HB' : Hid (Below w.heap.size w w4) := below_then HB.out hb
        clear hb HR HB
        have HR := HR'
        have HB := HB'
        clear HR' HB'
        cases h3 : vokB j.na j.nb j.nc
        · have HN : Hid (jobB j = false) := by show _ = _; simp [jobB, h0, h1, h2, h3]
          go_wp2_with fail
          go_ret
          exact ⟨by rw [HN.out]; rfl, HB.out⟩
        · have c6 := HR.out.cell 6 _ rfl
          have c7 := HR.out.cell 7 _ rfl
          have c8 := HR.out.cell 8 _ rfl
          go_wp2_with fail
          clear c6 c7 c8
          refine (implVecOk_c j.la j.lb j.lc _).mono ?_
          rintro e w5 ⟨rfl, hb⟩
          have HR' : Hid (Row w5 w.heap.size [.int .i64 j.id, .int .i64 j.pr, .int .i64 j.nd, .int .i64 j.na, .int .i64 j.nb, .int .i64 j.nc, .int .i64 j.la, .int .i64 j.lb, .int .i64 j.lc, .int .i64 j.wl, .int .i64 j.lv]) := HR.out.below hb
          have HB' : Hid (Below w.heap.size w w5) := below_then HB.out hb
          clear hb HR HB
          have HR := HR'
          have HB := HB'
          clear HR' HB'
          cases h4 : vokB j.la j.lb j.lc
          · have HN : Hid (jobB j = false) := by show _ = _; simp [jobB, h0, h1, h2, h3, h4]
            go_wp2_with fail
            go_ret
            exact ⟨by rw [HN.out]; rfl, HB.out⟩
          · have c9 := HR.out.cell 9 _ rfl
            go_wp2_with fail
            clear c9
            refine (between_c 1 j.wl 1000000 _).mono ?_
            rintro e w6 ⟨rfl, rfl⟩
            cases h5 : btwB 1 j.wl 1000000
            · have HN : Hid (jobB j = false) := by show _ = _; simp [jobB, h0, h1, h2, h3, h4, h5]
              go_wp2_with fail
              go_ret
              exact ⟨by rw [HN.out]; rfl, HB.out⟩
            · have c10 := HR.out.cell 10 _ rfl
              go_wp2_with fail
              clear c10
              refine (between_c 0 j.lv 24 _).mono ?_
              rintro e w7 ⟨rfl, rfl⟩
              have HN : Hid (jobB j = btwB 0 j.lv 24) := by show _ = _; simp [jobB, h0, h1, h2, h3, h4, h5]
              go_wp2_with fail
              go_ret
              exact ⟨by rw [HN.out]; rfl, HB.out⟩
set_option maxHeartbeats 4000000 in
theorem specJobOk_c (j : Jb) (w : World) : Calls Tryz.prog 51 #[.agg #[.int .i64 j.id, .int .i64 j.pr, .int .i64 j.nd, .int .i64 j.na, .int .i64 j.nb, .int .i64 j.nc, .int .i64 j.la, .int .i64 j.lb, .int .i64 j.lc, .int .i64 j.wl, .int .i64 j.lv]] w fun e w' => e = .returned (.bool (jobB j)) ∧ Below w.heap.size w w' := by
  by_cases p0 : j.id < 1
  · have HN : Hid (jobB j = false) := by have := (btw_no (lo := 1) (n := j.id) (hi := 999)).2 (.inl p0); show _ = _; simp [jobB, this]
    go_enter Tryz.func51, Tryz.ntmps51
    go_wp2_with fail
    go_ret
    exact ⟨by rw [HN.out]; rfl, low_alloc _ _⟩
  by_cases p1 : 999 < j.id
  · have HN : Hid (jobB j = false) := by have := (btw_no (lo := 1) (n := j.id) (hi := 999)).2 (.inr p1); show _ = _; simp [jobB, this]
    go_enter Tryz.func51, Tryz.ntmps51
    go_wp2_with fail
    go_ret
    exact ⟨by rw [HN.out]; rfl, low_alloc _ _⟩
  by_cases p2 : j.pr < 0
  · have HN : Hid (jobB j = false) := by have := (btw_no (lo := 0) (n := j.pr) (hi := 999)).2 (.inl p2); show _ = _; simp [jobB, this]
    go_enter Tryz.func51, Tryz.ntmps51
    go_wp2_with fail
    go_ret
    exact ⟨by rw [HN.out]; rfl, low_alloc _ _⟩
  by_cases p3 : 999 < j.pr
  · have HN : Hid (jobB j = false) := by have := (btw_no (lo := 0) (n := j.pr) (hi := 999)).2 (.inr p3); show _ = _; simp [jobB, this]
    go_enter Tryz.func51, Tryz.ntmps51
    go_wp2_with fail
    go_ret
    exact ⟨by rw [HN.out]; rfl, low_alloc _ _⟩
  by_cases p4 : j.nd < 1
  · have HN : Hid (jobB j = false) := by have := (btw_no (lo := 1) (n := j.nd) (hi := 24)).2 (.inl p4); show _ = _; simp [jobB, this]
    go_enter Tryz.func51, Tryz.ntmps51
    go_wp2_with fail
    go_ret
    exact ⟨by rw [HN.out]; rfl, low_alloc _ _⟩
  by_cases p5 : 24 < j.nd
  · have HN : Hid (jobB j = false) := by have := (btw_no (lo := 1) (n := j.nd) (hi := 24)).2 (.inr p5); show _ = _; simp [jobB, this]
    go_enter Tryz.func51, Tryz.ntmps51
    go_wp2_with fail
    go_ret
    exact ⟨by rw [HN.out]; rfl, low_alloc _ _⟩
  have h0 : btwB 1 j.id 999 = true := btw_iff.2 ⟨by omega, by omega⟩
  have h1 : btwB 0 j.pr 999 = true := btw_iff.2 ⟨by omega, by omega⟩
  have h2 : btwB 1 j.nd 24 = true := btw_iff.2 ⟨by omega, by omega⟩
  have HJ : Hid (jobB j = (vokB j.na j.nb j.nc && (vokB j.la j.lb j.lc && (btwB 1 j.wl 1000000 && btwB 0 j.lv 24)))) := by show _ = _; simp [jobB, h0, h1, h2]
  clear h0 h1 h2
  go_enter Tryz.func51, Tryz.ntmps51
  go_wp2_with fail
  have HR : Hid (Row (w.alloc (.cells #[.int .i64 j.id, .int .i64 j.pr, .int .i64 j.nd, .int .i64 j.na, .int .i64 j.nb, .int .i64 j.nc, .int .i64 j.la, .int .i64 j.lb, .int .i64 j.lc, .int .i64 j.wl, .int .i64 j.lv] 52)) w.heap.size [.int .i64 j.id, .int .i64 j.pr, .int .i64 j.nd, .int .i64 j.na, .int .i64 j.nb, .int .i64 j.nc, .int .i64 j.la, .int .i64 j.lb, .int .i64 j.lc, .int .i64 j.wl, .int .i64 j.lv]) := row_fresh w [.int .i64 j.id, .int .i64 j.pr, .int .i64 j.nd, .int .i64 j.na, .int .i64 j.nb, .int .i64 j.nc, .int .i64 j.la, .int .i64 j.lb, .int .i64 j.lc, .int .i64 j.wl, .int .i64 j.lv] 52
  have HB : Hid (Below w.heap.size w (w.alloc (.cells #[.int .i64 j.id, .int .i64 j.pr, .int .i64 j.nd, .int .i64 j.na, .int .i64 j.nb, .int .i64 j.nc, .int .i64 j.la, .int .i64 j.lb, .int .i64 j.lc, .int .i64 j.wl, .int .i64 j.lv] 52))) := low_alloc _ _
  generalize w.alloc (.cells #[.int .i64 j.id, .int .i64 j.pr, .int .i64 j.nd, .int .i64 j.na, .int .i64 j.nb, .int .i64 j.nc, .int .i64 j.la, .int .i64 j.lb, .int .i64 j.lc, .int .i64 j.wl, .int .i64 j.lv] 52) = w0 at HR HB
  refine (specVecOk_c j.na j.nb j.nc _).mono ?_
  rintro e w1 ⟨rfl, hb⟩
  have HR1 : Hid (Row w1 w.heap.size [.int .i64 j.id, .int .i64 j.pr, .int .i64 j.nd, .int .i64 j.na, .int .i64 j.nb, .int .i64 j.nc, .int .i64 j.la, .int .i64 j.lb, .int .i64 j.lc, .int .i64 j.wl, .int .i64 j.lv]) := HR.out.below hb
  have HB1 : Hid (Below w.heap.size w w1) := below_then HB.out hb
  clear hb HR HB
  cases h3 : vokB j.na j.nb j.nc
  · have HN : Hid (jobB j = false) := by show _ = _; rw [HJ.out, h3]; rfl
    go_wp2_with fail
    go_ret
    exact ⟨by rw [HN.out]; rfl, HB1.out⟩
  have c6 := HR1.out.cell 6 _ rfl
  have c7 := HR1.out.cell 7 _ rfl
  have c8 := HR1.out.cell 8 _ rfl
  go_wp2_with fail
  clear c6 c7 c8
  refine (specVecOk_c j.la j.lb j.lc _).mono ?_
  rintro e w2 ⟨rfl, hb⟩
  have HR2 : Hid (Row w2 w.heap.size [.int .i64 j.id, .int .i64 j.pr, .int .i64 j.nd, .int .i64 j.na, .int .i64 j.nb, .int .i64 j.nc, .int .i64 j.la, .int .i64 j.lb, .int .i64 j.lc, .int .i64 j.wl, .int .i64 j.lv]) := HR1.out.below hb
  have HB2 : Hid (Below w.heap.size w w2) := below_then HB1.out hb
  clear hb HR1 HB1
  cases h4 : vokB j.la j.lb j.lc
  · have HN : Hid (jobB j = false) := by show _ = _; rw [HJ.out, h3, h4]; rfl
    go_wp2_with fail
    go_ret
    exact ⟨by rw [HN.out]; rfl, HB2.out⟩
  have HN : Hid (jobB j = (btwB 1 j.wl 1000000 && btwB 0 j.lv 24)) := by show _ = _; rw [HJ.out, h3, h4]; rfl
  have c9 := HR2.out.cell 9 _ rfl
  have c10 := HR2.out.cell 10 _ rfl
  by_cases q0 : 1 ≤ j.wl
  · by_cases q1 : j.wl ≤ 1000000
    · by_cases q2 : 0 ≤ j.lv
      · have HE : Hid (jobB j = decide (j.lv ≤ 24)) := by show _ = _; rw [HN.out, btw_iff.2 ⟨q0, q1⟩, btwB, decide_eq_true q2]; rfl
        go_wp2_with fail
        go_ret
        exact ⟨by rw [HE.out]; rfl, HB2.out⟩
      · have HE : Hid (jobB j = false) := by show _ = _; rw [HN.out, btw_no.2 (.inl (by omega : j.lv < 0))]; simp
        go_wp2_with fail
        go_ret
        exact ⟨by rw [HE.out]; rfl, HB2.out⟩
    · have HE : Hid (jobB j = false) := by show _ = _; rw [HN.out, btw_no.2 (.inr (by omega : 1000000 < j.wl))]; rfl
      go_wp2_with fail
      go_ret
      exact ⟨by rw [HE.out]; rfl, HB2.out⟩
  · have HE : Hid (jobB j = false) := by show _ = _; rw [HN.out, btw_no.2 (.inl (by omega : j.wl < 1))]; rfl
    go_wp2_with fail
    go_ret
    exact ⟨by rw [HE.out]; rfl, HB2.out⟩

set_option maxHeartbeats 2000000 in
theorem toJob_c (j : Jb) (w : World) : Calls Tryz.prog 8 #[.agg #[.int .i64 j.id, .int .i64 j.pr, .int .i64 j.nd, .int .i64 j.na, .int .i64 j.nb, .int .i64 j.nc, .int .i64 j.la, .int .i64 j.lb, .int .i64 j.lc, .int .i64 j.wl, .int .i64 j.lv]] w fun e w' => e = .returned (.agg #[.int .i64 j.id, .int .i64 j.pr, .int .i64 j.nd, .int .i64 j.na, .int .i64 j.nb, .int .i64 j.nc, .int .i64 j.la, .int .i64 j.lb, .int .i64 j.lc, .int .i64 j.wl, .int .i64 j.lv]) ∧ Below w.heap.size w w' := by
  go_enter Tryz.func8, Tryz.ntmps8
  go_wp2
  go_returns
  exact ⟨rfl, by go_grown⟩
end Go.Proofs.YtmpjebkjopfejaaGreat
