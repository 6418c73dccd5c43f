/- The text of a topology: what it is; the specification's. -/
import Derived.Test.YtejleghdgdbbnaaGreatDoorTopH
import Derived.Test.YtejleghdgdbbnaaGreatDoorVecT
import Derived.Deep.DeepCutAuto
import Derived.Deep.Light
namespace Go.Proofs.YtejleghdgdbbnaaGreatDoor
open Go.ChangeShapes Go.WideShapes Go.ChangeAt Go.RowKit

/-- The line of a switch, of a node. -/
def swL (p : Int) : List UInt8 := [115, 119, 105, 116, 99, 104, 32] ++ numL p ++ [10]
def ndL (n : Nd) : List UInt8 := [110, 111, 100, 101, 32] ++ numL n.l ++ [32] ++ vtL n.a n.b n.c ++ [10]
/-- The lines of the switches from 1 on, of k switches. -/
def swTo (ps : List Int) (k : Nat) : List UInt8 := ((ps.take k).drop 1).flatMap swL
/-- .. and of the first k nodes. -/
def ndTo (ps : List Int) (ns : List Nd) (k : Nat) : List UInt8 := swTo ps ps.length ++ (ns.take k).flatMap ndL
/-- The text of a topology. -/
noncomputable def ttL (ps : List Int) (ns : List Nd) : List UInt8 := open Classical in if TopOk ps ns then ndTo ps ns ns.length else []

theorem sw_one (ps : List Int) : swTo ps 1 = [] := by
  unfold swTo
  cases ps <;> simp
theorem sw_step (ps : List Int) (k : Nat) (h : 1 ≤ k) (x : Int) (hx : ps[k]? = some x) : swTo ps (k + 1) = swTo ps k ++ swL x := by
  have hl := (List.getElem?_eq_some_iff.1 hx).1
  unfold swTo
  rw [List.take_add_one, hx, Option.toList_some, List.drop_append_of_le_length (by simp; omega), List.flatMap_append]
  simp
theorem nd_zero (ps : List Int) (ns : List Nd) : ndTo ps ns 0 = swTo ps ps.length := by simp [ndTo]
theorem nd_step (ps : List Int) (ns : List Nd) (k : Nat) (n : Nd) (hx : ns[k]? = some n) : ndTo ps ns (k + 1) = ndTo ps ns k ++ ndL n := by
  unfold ndTo
  rw [List.take_add_one, hx, Option.toList_some, List.flatMap_append]
  simp
theorem vt_len (a b c : Int) : (vtL a b c).length ≤ 40 := by
  unfold vtL
  have := numL_len a
  have := numL_len b
  have := numL_len c
  cases vokB a b c
  · simp
  · simp; omega
theorem swL_len (p : Int) : (swL p).length ≤ 20 := by
  have := numL_len p
  unfold swL
  simp
  omega
theorem ndL_len (n : Nd) : (ndL n).length ≤ 60 := by
  have := numL_len n.l
  have := vt_len n.a n.b n.c
  unfold ndL
  simp
  omega
theorem flat_bound {α : Type} (f : α → List UInt8) (m : Nat) (h : ∀ x, (f x).length ≤ m) : ∀ l : List α, (l.flatMap f).length ≤ l.length * m
  | [] => by simp
  | x :: r => by
    have h1 := h x
    have h2 := flat_bound f m h r
    rw [List.flatMap_cons, List.length_append, List.length_cons, Nat.add_mul]
    omega
theorem sw_len (ps : List Int) (k : Nat) (h : ps.length ≤ 24) : (swTo ps k).length ≤ 480 := by
  have h1 := flat_bound swL 20 swL_len ((ps.take k).drop 1)
  have h2 : ((ps.take k).drop 1).length ≤ 24 := by simp; omega
  unfold swTo
  omega
theorem nd_len (ps : List Int) (ns : List Nd) (k : Nat) (h : ps.length ≤ 24) (h' : ns.length ≤ 24) : (ndTo ps ns k).length ≤ 1920 := by
  have h0 := sw_len ps ps.length h
  have h1 := flat_bound ndL 60 ndL_len (ns.take k)
  have h2 : (ns.take k).length ≤ 24 := by simp; omega
  unfold ndTo
  rw [List.length_append]
  omega

theorem add_m (x y : List UInt8) (hx : x.length ≤ 100000) (hy : y.length ≤ 100000) (W : World) :
    (Op.stringOp .add ⟨x.toArray⟩ ⟨y.toArray⟩).run Tryz.prog W = .ok (.string ⟨(x ++ y).toArray⟩) W :=
  run_string_add_lists W _ _ (by omega) (by omega)

/-- Four cells of an old block. -/
theorem held4 {V w' : World} {B : Nat} {x y z u : Value} (hr : Row V B [x, y, z, u]) (h : Below V.heap.size V w') : Below V.heap.size V w' ∧ w'.cell? ⟨B, 0, none⟩ = some x ∧ w'.cell? ⟨B, 1, none⟩ = some y ∧ w'.cell? ⟨B, 2, none⟩ = some z ∧ w'.cell? ⟨B, 3, none⟩ = some u :=
  ⟨h, (hr.below h).cell 0 _ rfl, (hr.below h).cell 1 _ rfl, (hr.below h).cell 2 _ rfl, (hr.below h).cell 3 _ rfl⟩

end Go.Proofs.YtejleghdgdbbnaaGreatDoor
