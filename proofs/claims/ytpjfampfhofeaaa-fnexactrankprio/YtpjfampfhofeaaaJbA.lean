/- Jobs: right or not. -/
import Derived.Test.YtpjfampfhofeaaaVecC
import Derived.Test.YtpjfampfhofeaaaPartsP
import Derived.Test.YtpjfampfhofeaaaTopB

namespace Go.Proofs.Ytpjfampfhofeaaa
open Go.ChangeShapes Go.WideShapes Go.ChangeAt Go.RowKit

/-- A job's eleven numbers. -/
structure Jb where
  (id pr nd na nb nc la lb lc wl lv : Int)
def Jb.cells (j : Jb) : List Value := [.int .i64 j.id, .int .i64 j.pr, .int .i64 j.nd, .int .i64 j.na, .int .i64 j.nb, .int .i64 j.nc, .int .i64 j.la, .int .i64 j.lb, .int .i64 j.lc, .int .i64 j.wl, .int .i64 j.lv]
def btwB (lo n hi : Int) : Bool := decide (lo ≤ n) && decide (n ≤ hi)
theorem btw_iff {lo n hi : Int} : btwB lo n hi = true ↔ lo ≤ n ∧ n ≤ hi := by simp [btwB]
theorem btw_no {lo n hi : Int} : btwB lo n hi = false ↔ n < lo ∨ hi < n := by simp [btwB]; omega
/-- A right job. -/
def jobB (j : Jb) : Bool := btwB 1 j.id 999 && (btwB 0 j.pr 999 && (btwB 1 j.nd 24 && (vokB j.na j.nb j.nc && (vokB j.la j.lb j.lc && (btwB 1 j.wl 1000000 && btwB 0 j.lv 24)))))
theorem row_fresh' (w : World) (xs : List Value) (t : TypeId) : Row (w.alloc (.cells xs.toArray t)) w.heap.size xs := row_fresh w xs t

theorem between_c (lo n hi : Int) (w : World) : Calls Try.prog 44 #[.int .i64 lo, .int .i64 n, .int .i64 hi] w fun e w' => e = .returned (.bool (btwB lo n hi)) ∧ w' = w := by
  by_cases h0 : lo ≤ n
  · go_enter Try.func44, Try.ntmps44
    go_wp2
    go_ret
    exact ⟨by simp [btwB, h0], rfl⟩
  · have h1 : btwB lo n hi = false := btw_no.2 (.inl (by omega))
    rw [h1]
    go_enter Try.func44, Try.ntmps44
    go_wp2
    go_ret
    exact ⟨rfl, rfl⟩

end Go.Proofs.Ytpjfampfhofeaaa
