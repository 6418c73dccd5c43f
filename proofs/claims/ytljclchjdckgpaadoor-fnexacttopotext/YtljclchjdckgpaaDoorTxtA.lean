/- The text of a topology: what it is; the specification's. -/
import Derived.Test.YtljclchjdckgpaaDoorTopH
import Derived.Test.YtljclchjdckgpaaDoorVecT
import Derived.Deep.DeepCutAuto
import Derived.Deep.Light
namespace Go.Proofs.YtljclchjdckgpaaDoor
open Go.ChangeShapes Go.WideShapes Go.ChangeAt Go.RowKit

/-- The line of a switch, of a node. -/
def swL (p : Int) : List UInt8 := [115, 119, 105, 116, 99, 104, 32] ++ numL p ++ [10]
def ndL (n : Nd) : List UInt8 := [110, 111, 100, 101, 32] ++ numL n.l ++ [32] ++ vtL n.a n.b n.c ++ [10]
/-- The lines of the switches from 1 on, of k switches. -/
def swTo (ps : List Int) (k : Nat) : List UInt8 := ((ps.take k).drop 1).flatMap swL
/-- .. and of the first k nodes. -/
def ndTo (ps : List Int) (ns : List Nd) (k : Nat) : List UInt8 := swTo ps ps.length ++ (ns.take k).flatMap ndL
/-- The text of a topology. -/
noncomputable def ttL (ps : List Int) (ns : List Nd) : List UInt8 := open Classical in if TopOk ps ns then ndTo ps ns ns.length else []

theorem sw_one (ps : List Int) : swTo ps 1 = [] := by
  unfold swTo
  cases ps <;> simp
theorem sw_step (ps : List Int) (k : Nat) (h : 1 ≤ k) (x : Int) (hx : ps[k]? = some x) : swTo ps (k + 1) = swTo ps k ++ swL x := by
  have hl := (List.getElem?_eq_some_iff.1 hx).1
  unfold swTo
  rw [List.take_add_one, hx, Option.toList_some, List.drop_append_of_le_length (by simp; omega), List.flatMap_append]
  simp
theorem nd_zero (ps : List Int) (ns : List Nd) : ndTo ps ns 0 = swTo ps ps.length := by simp [ndTo]
theorem nd_step (ps : List Int) (ns : List Nd) (k : Nat) (n : Nd) (hx : ns[k]? = some n) : ndTo ps ns (k + 1) = ndTo ps ns k ++ ndL n := by
  unfold ndTo
  rw [List.take_add_one, hx, Option.toList_some, List.flatMap_append]
  simp
theorem vt_len (a b c : Int) : (vtL a b c).length ≤ 40 := by
  unfold vtL
  have := numL_len a
  have := numL_len b
  have := numL_len c
  cases vokB a b c
  · simp
  · simp; omega
theorem swL_len (p : Int) : (swL p).length ≤ 20 := by
  have := numL_len p
  unfold swL
  simp
  omega
theorem ndL_len (n : Nd) : (ndL n).length ≤ 60 := by
  have := numL_len n.l
  have := vt_len n.a n.b n.c
  unfold ndL
  simp
  omega
theorem flat_bound {α : Type} (f : α → List UInt8) (m : Nat) (h : ∀ x, (f x).length ≤ m) : ∀ l : List α, (l.flatMap f).length ≤ l.length * m
  | [] => by simp
  | x :: r => by
    have h1 := h x
    have h2 := flat_bound f m h r
    rw [List.flatMap_cons, List.length_append, List.length_cons, Nat.add_mul]
    omega
theorem sw_len (ps : List Int) (k : Nat) (h : ps.length ≤ 24) : (swTo ps k).length ≤ 480 := by
  have h1 := flat_bound swL 20 swL_len ((ps.take k).drop 1)
  have h2 : ((ps.take k).drop 1).length ≤ 24 := by simp; omega
  unfold swTo
  omega
theorem nd_len (ps : List Int) (ns : List Nd) (k : Nat) (h : ps.length ≤ 24) (h' : ns.length ≤ 24) : (ndTo ps ns k).length ≤ 1920 := by
  have h0 := sw_len ps ps.length h
  have h1 := flat_bound ndL 60 ndL_len (ns.take k)
  have h2 : (ns.take k).length ≤ 24 := by simp; omega
  unfold ndTo
  rw [List.length_append]
  omega

theorem add_m (x y : List UInt8) (hx : x.length ≤ 100000) (hy : y.length ≤ 100000) (W : World) :
    (Op.stringOp .add ⟨x.toArray⟩ ⟨y.toArray⟩).run Tryd.prog W = .ok (.string ⟨(x ++ y).toArray⟩) W :=
  run_string_add_lists W _ _ (by omega) (by omega)

/-- Four cells of an old block. -/
theorem held4 {V w' : World} {B : Nat} {x y z u : Value} (hr : Row V B [x, y, z, u]) (h : Below V.heap.size V w') : Below V.heap.size V w' ∧ w'.cell? ⟨B, 0, none⟩ = some x ∧ w'.cell? ⟨B, 1, none⟩ = some y ∧ w'.cell? ⟨B, 2, none⟩ = some z ∧ w'.cell? ⟨B, 3, none⟩ = some u :=
  ⟨h, (hr.below h).cell 0 _ rfl, (hr.below h).cell 1 _ rfl, (hr.below h).cell 2 _ rfl, (hr.below h).cell 3 _ rfl⟩

set_option maxHeartbeats 4000000 in
theorem specTopoText_c (a b : Option Addr) (c d : Nat) (ps : List Int) (ns : List Nd) (hp : ps.length ≤ 1048576) (hn : ns.length ≤ 1048576) (w : World) (h : Sq w a (ints ps)) (h' : Sq w b (flat ns)) :
    Calls Tryd.prog 11 #[.agg #[.slice a ps.length c, .slice b ns.length d]] w fun e w' => e = .returned (.string ⟨(ttL ps ns).toArray⟩) ∧ Below w.heap.size w w' := by
  have H : Hid (Sq w a (ints ps)) := h
  have H' : Hid (Sq w b (flat ns)) := h'
  clear h h'
  go_enter Tryd.func11, Tryd.ntmps11
  go_wp2_with fail
  generalize hV : w.alloc (.cells #[.slice a ps.length c, .slice b ns.length d] 26) = V
  have HA : Hid (Row V w.heap.size [.slice a ps.length c, .slice b ns.length d]) := by subst hV; exact row_fresh w [.slice a ps.length c, .slice b ns.length d] 26
  have HV : Hid (Below w.heap.size w V) := by subst hV; exact low_alloc _ _
  clear hV
  refine (specTopoOk_c a b c d ps ns hp hn _ (H.out.below HV.out) (H'.out.below HV.out)).mono ?_
  rintro e w1 ⟨k, rfl, hk, hb⟩
  have HB1 : Hid (Below V.heap.size V w1) := hb
  clear hb
  cases k
  · have HN : Hid (ttL ps ns = []) := by
      show _ = _
      rw [ttL, if_neg (fun t => by have := hk.2 t; cases this)]
    clear hk
    go_wp2_with fail
    go_ret
    exact ⟨by rw [HN.out]; rfl, below_then HV.out HB1.out⟩
  · have HY : Hid (TopOk ps ns) := hk.1 rfl
    have HN : Hid (ttL ps ns = ndTo ps ns ns.length) := by
      show _ = _
      rw [ttL, if_pos HY.out]
    have hpf := HY.out.few
    have hnf := HY.out.nodes
    have hp1 := HY.out.one
    clear hk
    go_wp2_with fail
    go_loopw [3, 4] (fun o i wr => ∃ k : Nat, 1 ≤ k ∧ k ≤ ps.length ∧ i = .int .i64 k ∧ o = .string ⟨(swTo ps k).toArray⟩ ∧ Below V.heap.size V wr) (fun _ i _ => ps.length - (intOf i).toNat)
    case atStart => exact ⟨1, Nat.le_refl _, hp1, rfl, by rw [sw_one], HB1.out⟩
    case round =>
      obtain ⟨k, hk1, hk, rfl, rfl, hb⟩ := hrel
      have HB : Hid (Below V.heap.size V wr) := hb
      have e0 := (HA.out.below hb).cell 0 _ rfl
      have e1 := (HA.out.below hb).cell 1 _ rfl
      clear hb
      by_cases hlt : k < ps.length
      · have hj0 : (0 : Int) ≤ (k : Int) := by omega
        have hj1 : (k : Int) < (ps.length : Int) := by omega
        obtain ⟨p, rfl, _, hc⟩ := ((H.out.below HV.out).below HB.out).cell k _ (ints_at ps k hlt)
        have HX : Hid (ps[k]? = some ps[k]) := List.getElem?_eq_getElem hlt
        generalize ps[k] = x at hc HX
        have l0 := sw_len ps k hpf
        have l1 := numL_len x
        have h1 := add_m (swTo ps k) [115, 119, 105, 116, 99, 104, 32] (by omega) (by simp)
        have h2 := add_m (swTo ps k ++ [115, 119, 105, 116, 99, 104, 32]) (numL x) (by simp; omega) (by omega)
        have h3 := add_m (swTo ps k ++ [115, 119, 105, 116, 99, 104, 32] ++ numL x) [10] (by simp; omega) (by simp)
        have HS : Hid (swTo ps k ++ [115, 119, 105, 116, 99, 104, 32] ++ numL x ++ [10] = swTo ps (k + 1)) := by
          show _ = _
          rw [sw_step ps k hk1 x HX.out, swL]
          simp
        rw [HS.out] at h3
        have HNum : Hid (∀ W, Calls Tryd.prog 32 #[.int .i64 x] W fun e w' => e = .returned (.string ⟨(numL x).toArray⟩) ∧ Below W.heap.size W w') := fun W => specNumText_all x W
        generalize (⟨(swTo ps k).toArray⟩ : ByteArray) = s0 at *
        generalize (⟨(swTo ps k ++ [115, 119, 105, 116, 99, 104, 32]).toArray⟩ : ByteArray) = s1 at *
        generalize (⟨(swTo ps k ++ [115, 119, 105, 116, 99, 104, 32] ++ numL x).toArray⟩ : ByteArray) = s2 at *
        generalize (⟨(numL x).toArray⟩ : ByteArray) = sx at *
        clear l0 l1
        go_wp2_with fail
        refine (HNum.out _).mono ?_
        rintro e w2 ⟨rfl, hb⟩
        have HB2 : Hid (Below V.heap.size V w2) := below_then HB.out hb
        clear hb
        go_wp2_with fail
        go_roundw
        case rel => exact ⟨k + 1, by omega, by omega, by go_num, rfl, HB2.out⟩
        case measure => simp [intOf]; omega
      · obtain rfl : k = ps.length := by omega
        rw [← nd_zero ps ns]
        clear hlt
        go_wp2_with fail
        clear e0 e1
        go_loopw [3, 30] (fun o i wq => ∃ j : Nat, j ≤ ns.length ∧ i = .int .i64 j ∧ o = .string ⟨(ndTo ps ns j).toArray⟩ ∧ Below V.heap.size V wq) (fun _ i _ => ns.length - (intOf i).toNat)
        case atStart => exact ⟨0, Nat.zero_le _, rfl, rfl, HB.out⟩
        case round =>
          obtain ⟨j, hj, rfl, rfl, hb⟩ := hrel
          have HB2 : Hid (Below V.heap.size V wr) := hb
          have e1 := (HA.out.below hb).cell 1 _ rfl
          clear hb HB
          by_cases hlt : j < ns.length
          · have hj0 : (0 : Int) ≤ (j : Int) := by omega
            have hj1 : (j : Int) < (ns.length : Int) := by omega
            obtain ⟨p2, rfl, c0, c1, c2, c3⟩ := ((H'.out.below HV.out).below HB2.out).node j hlt
            have HX : Hid (ns[j]? = some ns[j]) := List.getElem?_eq_getElem hlt
            generalize ns[j] = n at c0 c1 c2 c3 HX
            have l0 := nd_len ps ns j hpf hnf
            have l1 := numL_len n.l
            have l2 := vt_len n.a n.b n.c
            have h1 := add_m (ndTo ps ns j) [110, 111, 100, 101, 32] (by omega) (by simp)
            have h2 := add_m (ndTo ps ns j ++ [110, 111, 100, 101, 32]) (numL n.l) (by simp; omega) (by omega)
            have h3 := add_m (ndTo ps ns j ++ [110, 111, 100, 101, 32] ++ numL n.l) [32] (by simp; omega) (by simp)
            have h4 := add_m (ndTo ps ns j ++ [110, 111, 100, 101, 32] ++ numL n.l ++ [32]) (vtL n.a n.b n.c) (by simp; omega) (by omega)
            have h5 := add_m (ndTo ps ns j ++ [110, 111, 100, 101, 32] ++ numL n.l ++ [32] ++ vtL n.a n.b n.c) [10] (by simp; omega) (by simp)
            have HS : Hid (ndTo ps ns j ++ [110, 111, 100, 101, 32] ++ numL n.l ++ [32] ++ vtL n.a n.b n.c ++ [10] = ndTo ps ns (j + 1)) := by
              show _ = _
              rw [nd_step ps ns j n HX.out, ndL]
              simp
            rw [HS.out] at h5
            have HNum : Hid (∀ W, Calls Tryd.prog 32 #[.int .i64 n.l] W fun e w' => e = .returned (.string ⟨(numL n.l).toArray⟩) ∧ Below W.heap.size W w') := fun W => specNumText_all n.l W
            have HVec : Hid (∀ W, Calls Tryd.prog 33 #[.agg #[.int .i64 n.a, .int .i64 n.b, .int .i64 n.c]] W fun e w' => e = .returned (.string ⟨(vtL n.a n.b n.c).toArray⟩) ∧ Below W.heap.size W w') := fun W => specVecText_all n.a n.b n.c W
            generalize (⟨(ndTo ps ns j).toArray⟩ : ByteArray) = s0 at *
            generalize (⟨(ndTo ps ns j ++ [110, 111, 100, 101, 32]).toArray⟩ : ByteArray) = s1 at *
            generalize (⟨(ndTo ps ns j ++ [110, 111, 100, 101, 32] ++ numL n.l).toArray⟩ : ByteArray) = s2 at *
            generalize (⟨(ndTo ps ns j ++ [110, 111, 100, 101, 32] ++ numL n.l ++ [32]).toArray⟩ : ByteArray) = s3 at *
            generalize (⟨(ndTo ps ns j ++ [110, 111, 100, 101, 32] ++ numL n.l ++ [32] ++ vtL n.a n.b n.c).toArray⟩ : ByteArray) = s4 at *
            generalize he5 : (⟨(ndTo ps ns (j + 1)).toArray⟩ : ByteArray) = s5 at *
            have HE5 : Hid (Value.string s5 = .string ⟨(ndTo ps ns (j + 1)).toArray⟩) := by show _ = _; rw [he5]
            clear he5
            generalize (⟨(numL n.l).toArray⟩ : ByteArray) = sx at *
            generalize (⟨(vtL n.a n.b n.c).toArray⟩ : ByteArray) = sy at *
            clear l0 l1 l2
            go_wp2_with fail
            have HQ3 : Hid (Row (wr.alloc (.cells #[.int .i64 n.l, .int .i64 n.a, .int .i64 n.b, .int .i64 n.c] 55)) wr.heap.size [.int .i64 n.l, .int .i64 n.a, .int .i64 n.b, .int .i64 n.c]) := row_fresh wr [.int .i64 n.l, .int .i64 n.a, .int .i64 n.b, .int .i64 n.c] 55
            have HB3 : Hid (Below V.heap.size V (wr.alloc (.cells #[.int .i64 n.l, .int .i64 n.a, .int .i64 n.b, .int .i64 n.c] 55))) := behind_alloc HB2.out _
            generalize wr.alloc (.cells #[.int .i64 n.l, .int .i64 n.a, .int .i64 n.b, .int .i64 n.c] 55) = w3 at HQ3 HB3
            generalize wr.heap.size = q at *
            clear c0 c1 c2 c3 HB2 e1
            have q0 := HQ3.out.cell 0 _ rfl
            have q1 := HQ3.out.cell 1 _ rfl
            have q2 := HQ3.out.cell 2 _ rfl
            have q3 := HQ3.out.cell 3 _ rfl
            have H0 : Hid (Below w3.heap.size w3 w3) := Below.refl _ _
            go_region_held3 (fun w' => Below w3.heap.size w3 w' ∧ w'.cell? ⟨q, 0, none⟩ = some (.int .i64 n.l) ∧ w'.cell? ⟨q, 1, none⟩ = some (.int .i64 n.a) ∧ w'.cell? ⟨q, 2, none⟩ = some (.int .i64 n.b) ∧ w'.cell? ⟨q, 3, none⟩ = some (.int .i64 n.c))
              ((go_split_ands; refine held4 HQ3.out ?_; first | (exact Hid.out (by with_reducible assumption)) | (with_reducible assumption) | (exact behind (by with_reducible assumption) (by with_reducible assumption)) | go_grown))
              (first
              | (go_at_call 32; refine (HNum.out _).mono ?_; rintro e wk ⟨rfl, hbk⟩; have Bk : Hid (Below w3.heap.size w3 wk) := behind hbk (And.left (by with_reducible assumption)))
              | (go_at_call 33; refine (HVec.out _).mono ?_; rintro e wk ⟨rfl, hbk⟩; have Bk : Hid (Below w3.heap.size w3 wk) := behind hbk (And.left (by with_reducible assumption))))
            all_goals
              go_split_ands
              go_wp2_with fail
              go_roundw
              case rel => exact ⟨j + 1, by omega, by go_num, HE5.out, below_then HB3.out (by with_reducible assumption)⟩
              case measure => simp [intOf]; omega
          · obtain rfl : j = ns.length := by omega
            go_wp2_with fail
            go_ret
            exact ⟨by rw [HN.out]; rfl, below_then HV.out HB2.out⟩
end Go.Proofs.YtljclchjdckgpaaDoor
