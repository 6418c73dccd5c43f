/- Whether a topology is right, by the specification. -/
import Derived.Test.YtbnbikmnembciaaTopF
namespace Go.Proofs.Ytbnbikmnembciaa
open Go.ChangeShapes Go.WideShapes Go.ChangeAt Go.RowKit

/-- A right topology. -/
structure TopOk (ps : List Int) (ns : List Nd) : Prop where
  one : 1 ≤ ps.length
  few : ps.length ≤ 24
  nodes : ns.length ≤ 24
  top : ps[0]? = some 0
  tree : treeB ps
  node : ∀ n ∈ ns, 0 ≤ n.l ∧ n.l < ps.length ∧ kidsTo ps n.l ps.length = [] ∧ vokB n.a n.b n.c = true
  level : 0 ≤ lvF ps ps.length 0

/-- The answer says whether P holds. -/
def Says (w : World) (P : Prop) (e : Ending) (w' : World) : Prop := ∃ k : Bool, e = .returned (.bool k) ∧ (k = true ↔ P) ∧ Below w.heap.size w w'

theorem says_no {w w' : World} {P : Prop} {e : Ending} (he : e = .returned (.bool false)) (h : ¬ P) (hb : Below w.heap.size w w') : Says w P e w' := ⟨false, he, by simp [h], hb⟩
theorem says_yes {w w' : World} {P : Prop} {e : Ending} (he : e = .returned (.bool true)) (h : P) (hb : Below w.heap.size w w') : Says w P e w' := ⟨true, he, by simp [h], hb⟩

set_option maxHeartbeats 1000000 in
theorem specTopoOk_none (a b : Option Addr) (c d : Nat) (ps : List Int) (ns : List Nd) (hp : ps.length ≤ 1048576) (_hn : ns.length ≤ 1048576) (w : World) (h : ps.length < 1) : Calls Try.prog 40 #[.agg #[.slice a ps.length c, .slice b ns.length d]] w (Says w (TopOk ps ns)) := by
  have hi : (ps.length : Int) < 1 := by omega
  have HN : Hid (¬ TopOk ps ns) := fun t => by have := t.one; omega
  clear h
  go_enter Try.func40, Try.ntmps40
  go_wp2_with fail
  go_ret
  exact says_no rfl HN.out (by go_grown)

set_option maxHeartbeats 1000000 in
theorem specTopoOk_many (a b : Option Addr) (c d : Nat) (ps : List Int) (ns : List Nd) (hp : ps.length ≤ 1048576) (_hn : ns.length ≤ 1048576) (w : World) (h : 24 < ps.length) : Calls Try.prog 40 #[.agg #[.slice a ps.length c, .slice b ns.length d]] w (Says w (TopOk ps ns)) := by
  have hi : ¬ (ps.length : Int) < 1 := by omega
  have hi' : 24 < (ps.length : Int) := by omega
  have HN : Hid (¬ TopOk ps ns) := fun t => by have := t.few; omega
  clear h
  go_enter Try.func40, Try.ntmps40
  go_wp2_with fail
  go_ret
  exact says_no rfl HN.out (by go_grown)

set_option maxHeartbeats 1000000 in
theorem specTopoOk_full (a b : Option Addr) (c d : Nat) (ps : List Int) (ns : List Nd) (hp : ps.length ≤ 1048576) (_hn : ns.length ≤ 1048576) (w : World) (h0 : 1 ≤ ps.length) (h1 : ps.length ≤ 24) (h : 24 < ns.length) : Calls Try.prog 40 #[.agg #[.slice a ps.length c, .slice b ns.length d]] w (Says w (TopOk ps ns)) := by
  have hi : ¬ (ps.length : Int) < 1 := by omega
  have hi' : ¬ 24 < (ps.length : Int) := by omega
  have hi2 : 24 < (ns.length : Int) := by omega
  have HN : Hid (¬ TopOk ps ns) := fun t => by have := t.nodes; omega
  clear h
  go_enter Try.func40, Try.ntmps40
  go_wp2_with fail
  go_ret
  exact says_no rfl HN.out (by go_grown)

set_option maxHeartbeats 1000000 in
theorem specTopoOk_top (a b : Option Addr) (c d : Nat) (ps : List Int) (ns : List Nd) (hp : ps.length ≤ 1048576) (_hn : ns.length ≤ 1048576) (w : World) (h : Sq w a (ints ps)) (h0 : 1 ≤ ps.length) (h1 : ps.length ≤ 24) (h2 : ns.length ≤ 24) (h3 : ps[0]? ≠ some 0) : Calls Try.prog 40 #[.agg #[.slice a ps.length c, .slice b ns.length d]] w (Says w (TopOk ps ns)) := by
  have hi : ¬ (ps.length : Int) < 1 := by omega
  have hi' : ¬ 24 < (ps.length : Int) := by omega
  have hi2 : ¬ 24 < (ns.length : Int) := by omega
  have hi3 : (0 : Int) < (ps.length : Int) := by omega
  have HN : Hid (¬ TopOk ps ns) := fun t => h3 t.top
  have hlt : w.heap.size < w.heap.size + 1 := by omega
  obtain ⟨p, rfl, hpb, hc⟩ := (h.below (low_alloc w (.cells #[.slice a ps.length c, .slice b ns.length d] 39))).cell 0 _ (ints_at ps 0 h0)
  have hx : (ps[0] != 0) = true := by
    simp
    intro e
    apply h3
    rw [List.getElem?_eq_getElem h0, e]
  generalize ps[0] = x at hc hx
  have hp0 : p.add 0 = p := rfl
  rw [hp0] at hc
  clear h3 h
  go_enter Try.func40, Try.ntmps40
  go_wp2_with fail
  go_ret
  exact says_no rfl HN.out (by go_grown)
end Go.Proofs.Ytbnbikmnembciaa
