/- Whether a profile is right: the specification and the program. -/
import Derived.Test.YtmpjebkjopfejaaGreatMzPtA
import Derived.Test.YtmpjebkjopfejaaGreatMzVecC
import Derived.Test.YtmpjebkjopfejaaGreatMgRb
import Derived.Laws.StructEq
namespace Go.Proofs.YtmpjebkjopfejaaGreat
open Go.ChangeShapes Go.WideShapes Go.ChangeAt Go.RowKit

/-- A time. -/
def timeB (t : Int) : Bool := decide (0 ≤ t) && decide (t ≤ 1000000000)
theorem time_iff {t : Int} : timeB t = true ↔ 0 ≤ t ∧ t ≤ 1000000000 := by simp [timeB]

theorem l01Time_c (n : Int) (w : World) :
    Calls Tryz.prog 23 #[.int .i64 n] w fun e w' => e = .returned (.bool (timeB n)) ∧ w' = w := by
  by_cases h0 : 0 ≤ n
  · by_cases h1 : n ≤ 1000000000
    · go_enter Tryz.func23, Tryz.ntmps23
      go_wp2
      go_ret
      exact ⟨by simp [timeB, h0, h1], rfl⟩
    · go_enter Tryz.func23, Tryz.ntmps23
      go_wp2
      go_ret
      exact ⟨by simp [timeB, h0, h1], rfl⟩
  · go_enter Tryz.func23, Tryz.ntmps23
    go_wp2
    go_ret
    exact ⟨by simp [timeB]; omega, rfl⟩
theorem timeOk_c (n : Int) (w : World) :
    Calls Tryz.prog 108 #[.int .i64 n] w fun e w' => e = .returned (.bool (timeB n)) ∧ w' = w := by
  by_cases h0 : 0 ≤ n
  · by_cases h1 : n ≤ 1000000000
    · go_enter Tryz.func108, Tryz.ntmps108
      go_wp2
      go_ret
      exact ⟨by simp [timeB, h0, h1], rfl⟩
    · go_enter Tryz.func108, Tryz.ntmps108
      go_wp2
      go_ret
      exact ⟨by simp [timeB, h0, h1], rfl⟩
  · go_enter Tryz.func108, Tryz.ntmps108
    go_wp2
    go_ret
    exact ⟨by simp [timeB]; omega, rfl⟩

/-- Two points have the same free. -/
def sameV (m n : Nd) : Bool := m.a == n.a && (m.b == n.b && m.c == n.c)

set_option maxRecDepth 100000 in
/-- Two vectors, held against each other. -/
theorem eq_vec (a b c x y z : Int) (w : World) : (Op.equalIn 10000 50 (.agg #[.int .i64 a, .int .i64 b, .int .i64 c]) (.agg #[.int .i64 x, .int .i64 y, .int .i64 z])).run Tryz.prog w = .ok (a == x && (b == y && c == z)) w := by
  rw [run_equalIn_struct w 9999 50 _ _ (by rfl) (by kernel_rfl)]
  cases h1 : a == x <;> cases h2 : b == y <;> cases h3 : c == z <;> simp_all [go_sem]

/-- A right profile. -/
structure POk (ns : List Nd) : Prop where
  one : 1 ≤ ns.length
  few : ns.length ≤ 200
  top : ∀ n, ns[0]? = some n → n.l = 0
  each : ∀ (i : Nat) n, ns[i]? = some n → timeB n.l = true ∧ vokB n.a n.b n.c = true
  step : ∀ (i : Nat) m n, ns[i]? = some m → ns[i + 1]? = some n → m.l < n.l ∧ sameV m n = false

set_option maxHeartbeats 1000000 in
theorem specProfOk_none (b : Option Addr) (d : Nat) (ns : List Nd) (w : World) (h : ns.length < 1) : Calls Tryz.prog 74 #[.agg #[.slice b ns.length d]] w (Says w (POk ns)) := by
  have hi : (ns.length : Int) < 1 := by omega
  have HN : Hid (¬ POk ns) := fun t => by have := t.one; omega
  clear h
  go_enter Tryz.func74, Tryz.ntmps74
  go_wp2_with fail
  go_ret
  exact says_no rfl HN.out (by go_grown)

set_option maxHeartbeats 1000000 in
theorem specProfOk_many (b : Option Addr) (d : Nat) (ns : List Nd) (w : World) (h : 200 < ns.length) : Calls Tryz.prog 74 #[.agg #[.slice b ns.length d]] w (Says w (POk ns)) := by
  have hi : ¬ (ns.length : Int) < 1 := by omega
  have hi' : 200 < (ns.length : Int) := by omega
  have HN : Hid (¬ POk ns) := fun t => by have := t.few; omega
  clear h
  go_enter Tryz.func74, Tryz.ntmps74
  go_wp2_with fail
  go_ret
  exact says_no rfl HN.out (by go_grown)

set_option maxHeartbeats 1000000 in
theorem specProfOk_top (b : Option Addr) (d : Nat) (ns : List Nd) (w : World) (h : Sq w b (flat ns)) (h0 : 1 ≤ ns.length) (h1 : ns.length ≤ 200) (n : Nd) (h3 : ns[0]? = some n) (h4 : n.l ≠ 0) : Calls Tryz.prog 74 #[.agg #[.slice b ns.length d]] w (Says w (POk ns)) := by
  have hi : ¬ (ns.length : Int) < 1 := by omega
  have hi' : ¬ 200 < (ns.length : Int) := by omega
  have hi3 : (0 : Int) < (ns.length : Int) := by omega
  have HN : Hid (¬ POk ns) := fun t => h4 (t.top n h3)
  obtain ⟨p, rfl, c0, _⟩ := (h.below (low_alloc w (.cells #[.slice b ns.length d] 44))).node 0 h0
  rw [show ns[0] = n by rw [List.getElem?_eq_getElem h0] at h3; exact Option.some.inj h3] at c0
  have hx : (n.l != 0) = true := by simpa using h4
  generalize n.l = x at c0 hx
  rw [show p.add (0 * 4) = p from rfl] at c0
  clear h3 h h4
  go_enter Tryz.func74, Tryz.ntmps74
  go_wp2_with fail
  go_ret
  exact says_no rfl HN.out (by go_grown)
set_option maxHeartbeats 1000000 in
theorem implProfOk_none (b : Option Addr) (d : Nat) (ns : List Nd) (w : World) (h : ns.length < 1) : Calls Tryz.prog 84 #[.agg #[.slice b ns.length d]] w (Says w (POk ns)) := by
  have hi : (ns.length : Int) < 1 := by omega
  have HN : Hid (¬ POk ns) := fun t => by have := t.one; omega
  clear h
  go_enter Tryz.func84, Tryz.ntmps84
  go_wp2_with fail
  go_ret
  exact says_no rfl HN.out (by go_grown)

set_option maxHeartbeats 1000000 in
theorem implProfOk_many (b : Option Addr) (d : Nat) (ns : List Nd) (w : World) (h : 200 < ns.length) : Calls Tryz.prog 84 #[.agg #[.slice b ns.length d]] w (Says w (POk ns)) := by
  have hi : ¬ (ns.length : Int) < 1 := by omega
  have hi' : 200 < (ns.length : Int) := by omega
  have HN : Hid (¬ POk ns) := fun t => by have := t.few; omega
  clear h
  go_enter Tryz.func84, Tryz.ntmps84
  go_wp2_with fail
  go_ret
  exact says_no rfl HN.out (by go_grown)

set_option maxHeartbeats 1000000 in
theorem implProfOk_top (b : Option Addr) (d : Nat) (ns : List Nd) (w : World) (h : Sq w b (flat ns)) (h0 : 1 ≤ ns.length) (h1 : ns.length ≤ 200) (n : Nd) (h3 : ns[0]? = some n) (h4 : n.l ≠ 0) : Calls Tryz.prog 84 #[.agg #[.slice b ns.length d]] w (Says w (POk ns)) := by
  have hi : ¬ (ns.length : Int) < 1 := by omega
  have hi' : ¬ 200 < (ns.length : Int) := by omega
  have hi3 : (0 : Int) < (ns.length : Int) := by omega
  have HN : Hid (¬ POk ns) := fun t => h4 (t.top n h3)
  obtain ⟨p, rfl, c0, _⟩ := (h.below (low_alloc w (.cells #[.slice b ns.length d] 44))).node 0 h0
  rw [show ns[0] = n by rw [List.getElem?_eq_getElem h0] at h3; exact Option.some.inj h3] at c0
  have hx : (n.l != 0) = true := by simpa using h4
  generalize n.l = x at c0 hx
  rw [show p.add (0 * 4) = p from rfl] at c0
  clear h3 h h4
  go_enter Tryz.func84, Tryz.ntmps84
  go_wp2_with fail
  go_ret
  exact says_no rfl HN.out (by go_grown)
end Go.Proofs.YtmpjebkjopfejaaGreat
