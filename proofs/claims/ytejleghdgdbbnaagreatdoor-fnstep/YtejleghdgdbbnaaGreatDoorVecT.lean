/- VecText: the specification's and the program's. -/
import Derived.Test.YtejleghdgdbbnaaGreatDoorVecC
import Derived.Test.YtejleghdgdbbnaaGreatDoorNumP
import Derived.Test.YtejleghdgdbbnaaGreatDoorNumB
namespace Go.Proofs.YtejleghdgdbbnaaGreatDoor
open Go.ChangeShapes Go.WideShapes Go.ChangeAt Go.RowKit

/-- The text of a vector. -/
def vtL (a b c : Int) : List UInt8 := bif vokB a b c then numL a ++ [47] ++ numL b ++ [47] ++ numL c else []

theorem numL_len (n : Int) : (numL n).length ≤ 10 := by
  cases h : timB n
  · rw [numL, h]; simp
  · rw [numL, h]
    have h1 := tim_yes h
    exact digits_len _ (by omega)

theorem add_l (x y : List UInt8) (hx : x.length ≤ 1000) (hy : y.length ≤ 1000) (W : World) :
    (Op.stringOp .add ⟨x.toArray⟩ ⟨y.toArray⟩).run Tryz.prog W = .ok (.string ⟨(x ++ y).toArray⟩) W :=
  run_string_add_lists W _ _ (by omega) (by omega)


/-- Three cells of an old block. -/
theorem held_one {V w' : World} {b1 : Nat} {a b c : Value} (s1 : b1 < V.heap.size) (f1 : V.cell? ⟨b1, 0, none⟩ = some a ∧ V.cell? ⟨b1, 1, none⟩ = some b ∧ V.cell? ⟨b1, 2, none⟩ = some c) (h : Below V.heap.size V w') :
    Below V.heap.size V w' ∧ w'.cell? ⟨b1, 0, none⟩ = some a ∧ w'.cell? ⟨b1, 1, none⟩ = some b ∧ w'.cell? ⟨b1, 2, none⟩ = some c :=
  ⟨h, kept3 h b1 a b c s1 f1⟩

theorem specVecText_no (a b c : Int) (w : World) (h : vokB a b c = false) :
    Calls Tryz.prog 35 #[.agg #[.int .i64 a, .int .i64 b, .int .i64 c]] w fun e w' => e = .returned (.string ⟨#[]⟩) ∧ Below w.heap.size w w' := by
  have Hn : Hid (vokB a b c = _) := h
  clear h
  go_enter Tryz.func35, Tryz.ntmps35
  go_wp2_with fail
  refine (specVecOk_c _ _ _ _).mono ?_
  rintro e w1 ⟨rfl, hb1⟩
  rw [Hn.out]
  go_wp2_with fail
  go_ret
  exact ⟨rfl, below_then (by go_grown) hb1⟩

set_option maxHeartbeats 2000000 in
theorem specVecText_core (Env : World → Prop) (hE : ∀ W W', Env W → Below W.heap.size W W' → Env W') (a b c : Int) (na nb nc x1 x2 x3 x4 : ByteArray)
    (h1 : ∀ W, (Op.stringOp .add na ⟨#[47]⟩).run Tryz.prog W = .ok (.string x1) W) (h2 : ∀ W, (Op.stringOp .add x1 nb).run Tryz.prog W = .ok (.string x2) W) (h3 : ∀ W, (Op.stringOp .add x2 ⟨#[47]⟩).run Tryz.prog W = .ok (.string x3) W) (h4 : ∀ W, (Op.stringOp .add x3 nc).run Tryz.prog W = .ok (.string x4) W)
    (ca : ∀ W, Env W → Calls Tryz.prog 18 #[.int .i64 a] W fun e w' => e = .returned (.string na) ∧ Below W.heap.size W w')
    (cb : ∀ W, Env W → Calls Tryz.prog 18 #[.int .i64 b] W fun e w' => e = .returned (.string nb) ∧ Below W.heap.size W w')
    (cc : ∀ W, Env W → Calls Tryz.prog 18 #[.int .i64 c] W fun e w' => e = .returned (.string nc) ∧ Below W.heap.size W w')
    (w : World) (h : vokB a b c = true) (env : Env w) :
    Calls Tryz.prog 35 #[.agg #[.int .i64 a, .int .i64 b, .int .i64 c]] w fun e w' => e = .returned (.string x4) ∧ Below w.heap.size w w' := by
  have Hn : Hid (vokB a b c = _) := h
  have He : Hid (Env w) := env
  have HE : Hid (∀ W W', Env W → Below W.heap.size W W' → Env W') := hE
  have Ca : Hid (∀ W, Env W → Calls Tryz.prog 18 #[.int .i64 a] W fun e w' => e = .returned (.string na) ∧ Below W.heap.size W w') := ca
  have Cb : Hid (∀ W, Env W → Calls Tryz.prog 18 #[.int .i64 b] W fun e w' => e = .returned (.string nb) ∧ Below W.heap.size W w') := cb
  have Cc : Hid (∀ W, Env W → Calls Tryz.prog 18 #[.int .i64 c] W fun e w' => e = .returned (.string nc) ∧ Below W.heap.size W w') := cc
  clear h env hE ca cb cc
  go_enter Tryz.func35, Tryz.ntmps35
  go_wp2_with fail
  refine (specVecOk_c _ _ _ _).mono ?_
  rintro e V ⟨rfl, hb1⟩
  rw [Hn.out]
  have F1 : Hid (V.cell? ⟨w.heap.size, 0, none⟩ = some (.int .i64 a) ∧ V.cell? ⟨w.heap.size, 1, none⟩ = some (.int .i64 b) ∧ V.cell? ⟨w.heap.size, 2, none⟩ = some (.int .i64 c)) := kept3 hb1 w.heap.size _ _ _ (by go_size) (by simp)
  have s1 : w.heap.size < V.heap.size := by have := hb1.size; simp at this; omega
  have HB : Hid (Below w.heap.size w V) := below_then (by go_grown) hb1
  have EV : Hid (Env V) := HE.out _ _ He.out HB.out
  clear hb1 He
  go_wp2_with fail
  go_region_held3 (fun w' => Below V.heap.size V w' ∧ w'.cell? ⟨w.heap.size, 0, none⟩ = some (.int .i64 a) ∧ w'.cell? ⟨w.heap.size, 1, none⟩ = some (.int .i64 b) ∧ w'.cell? ⟨w.heap.size, 2, none⟩ = some (.int .i64 c)) ((go_split_ands; refine held_one s1 F1.out ?_; first | (with_reducible assumption) | (exact behind (by with_reducible assumption) (by with_reducible assumption)) | (go_grown; done)))
    (first
    | (go_at_call_of 18 (Value.int IntKind.i64 a); refine (Ca.out _ (HE.out _ _ EV.out (And.left (by with_reducible assumption)))).mono ?_; rintro e w1 ⟨rfl, hb1⟩)
    | (go_at_call_of 18 (Value.int IntKind.i64 b); refine (Cb.out _ (HE.out _ _ EV.out (And.left (by with_reducible assumption)))).mono ?_; rintro e w1 ⟨rfl, hb1⟩)
    | (go_at_call_of 18 (Value.int IntKind.i64 c); refine (Cc.out _ (HE.out _ _ EV.out (And.left (by with_reducible assumption)))).mono ?_; rintro e w1 ⟨rfl, hb1⟩))
  go_split_ands
  go_wp2_with fail
  go_ret
  exact ⟨rfl, below_then HB.out (show Below V.heap.size V _ by with_reducible assumption)⟩
theorem implVecText_no (a b c : Int) (w : World) (h : vokB a b c = false) :
    Calls Tryz.prog 55 #[.agg #[.int .i64 a, .int .i64 b, .int .i64 c]] w fun e w' => e = .returned (.string ⟨#[]⟩) ∧ Below w.heap.size w w' := by
  have Hn : Hid (vokB a b c = _) := h
  clear h
  go_enter Tryz.func55, Tryz.ntmps55
  go_wp2_with fail
  refine (implVecOk_c _ _ _ _).mono ?_
  rintro e w1 ⟨rfl, hb1⟩
  rw [Hn.out]
  go_wp2_with fail
  go_ret
  exact ⟨rfl, below_then (by go_grown) hb1⟩

set_option maxHeartbeats 2000000 in
theorem implVecText_core (Env : World → Prop) (hE : ∀ W W', Env W → Below W.heap.size W W' → Env W') (a b c : Int) (na nb nc x1 x2 x3 x4 : ByteArray)
    (h1 : ∀ W, (Op.stringOp .add na ⟨#[47]⟩).run Tryz.prog W = .ok (.string x1) W) (h2 : ∀ W, (Op.stringOp .add x1 nb).run Tryz.prog W = .ok (.string x2) W) (h3 : ∀ W, (Op.stringOp .add x2 ⟨#[47]⟩).run Tryz.prog W = .ok (.string x3) W) (h4 : ∀ W, (Op.stringOp .add x3 nc).run Tryz.prog W = .ok (.string x4) W)
    (ca : ∀ W, Env W → Calls Tryz.prog 15 #[.int .i64 a] W fun e w' => e = .returned (.string na) ∧ Below W.heap.size W w')
    (cb : ∀ W, Env W → Calls Tryz.prog 15 #[.int .i64 b] W fun e w' => e = .returned (.string nb) ∧ Below W.heap.size W w')
    (cc : ∀ W, Env W → Calls Tryz.prog 15 #[.int .i64 c] W fun e w' => e = .returned (.string nc) ∧ Below W.heap.size W w')
    (w : World) (h : vokB a b c = true) (env : Env w) :
    Calls Tryz.prog 55 #[.agg #[.int .i64 a, .int .i64 b, .int .i64 c]] w fun e w' => e = .returned (.string x4) ∧ Below w.heap.size w w' := by
  have Hn : Hid (vokB a b c = _) := h
  have He : Hid (Env w) := env
  have HE : Hid (∀ W W', Env W → Below W.heap.size W W' → Env W') := hE
  have Ca : Hid (∀ W, Env W → Calls Tryz.prog 15 #[.int .i64 a] W fun e w' => e = .returned (.string na) ∧ Below W.heap.size W w') := ca
  have Cb : Hid (∀ W, Env W → Calls Tryz.prog 15 #[.int .i64 b] W fun e w' => e = .returned (.string nb) ∧ Below W.heap.size W w') := cb
  have Cc : Hid (∀ W, Env W → Calls Tryz.prog 15 #[.int .i64 c] W fun e w' => e = .returned (.string nc) ∧ Below W.heap.size W w') := cc
  clear h env hE ca cb cc
  go_enter Tryz.func55, Tryz.ntmps55
  go_wp2_with fail
  refine (implVecOk_c _ _ _ _).mono ?_
  rintro e V ⟨rfl, hb1⟩
  rw [Hn.out]
  have F1 : Hid (V.cell? ⟨w.heap.size, 0, none⟩ = some (.int .i64 a) ∧ V.cell? ⟨w.heap.size, 1, none⟩ = some (.int .i64 b) ∧ V.cell? ⟨w.heap.size, 2, none⟩ = some (.int .i64 c)) := kept3 hb1 w.heap.size _ _ _ (by go_size) (by simp)
  have s1 : w.heap.size < V.heap.size := by have := hb1.size; simp at this; omega
  have HB : Hid (Below w.heap.size w V) := below_then (by go_grown) hb1
  have EV : Hid (Env V) := HE.out _ _ He.out HB.out
  clear hb1 He
  go_wp2_with fail
  go_region_held3 (fun w' => Below V.heap.size V w' ∧ w'.cell? ⟨w.heap.size, 0, none⟩ = some (.int .i64 a) ∧ w'.cell? ⟨w.heap.size, 1, none⟩ = some (.int .i64 b) ∧ w'.cell? ⟨w.heap.size, 2, none⟩ = some (.int .i64 c)) ((go_split_ands; refine held_one s1 F1.out ?_; first | (with_reducible assumption) | (exact behind (by with_reducible assumption) (by with_reducible assumption)) | (go_grown; done)))
    (first
    | (go_at_call_of 15 (Value.int IntKind.i64 a); refine (Ca.out _ (HE.out _ _ EV.out (And.left (by with_reducible assumption)))).mono ?_; rintro e w1 ⟨rfl, hb1⟩)
    | (go_at_call_of 15 (Value.int IntKind.i64 b); refine (Cb.out _ (HE.out _ _ EV.out (And.left (by with_reducible assumption)))).mono ?_; rintro e w1 ⟨rfl, hb1⟩)
    | (go_at_call_of 15 (Value.int IntKind.i64 c); refine (Cc.out _ (HE.out _ _ EV.out (And.left (by with_reducible assumption)))).mono ?_; rintro e w1 ⟨rfl, hb1⟩))
  go_split_ands
  go_wp2_with fail
  go_ret
  exact ⟨rfl, below_then HB.out (show Below V.heap.size V _ by with_reducible assumption)⟩

theorem specVecText_all (a b c : Int) (w : World) :
    Calls Tryz.prog 35 #[.agg #[.int .i64 a, .int .i64 b, .int .i64 c]] w fun e w' => e = .returned (.string ⟨(vtL a b c).toArray⟩) ∧ Below w.heap.size w w' := by
  cases h : vokB a b c
  · rw [vtL, h]; exact specVecText_no a b c w h
  · rw [vtL, h]
    have la := numL_len a
    have lb := numL_len b
    have lc := numL_len c
    exact specVecText_core (fun _ => True) (fun _ _ _ _ => trivial) a b c _ _ _ _ _ _ _ (add_l (numL a) [47] (by omega) (by simp)) (add_l _ (numL b) (by simp; omega) (by omega)) (add_l _ [47] (by simp; omega) (by simp)) (add_l _ (numL c) (by simp; omega) (by omega))
      (fun W _ => specNumText_all a W) (fun W _ => specNumText_all b W) (fun W _ => specNumText_all c W) w h trivial

theorem implVecText_all (a b c : Int) (w : World) (ht : Tab w) :
    Calls Tryz.prog 55 #[.agg #[.int .i64 a, .int .i64 b, .int .i64 c]] w fun e w' => e = .returned (.string ⟨(vtL a b c).toArray⟩) ∧ Below w.heap.size w w' := by
  cases h : vokB a b c
  · rw [vtL, h]; exact implVecText_no a b c w h
  · rw [vtL, h]
    have la := numL_len a
    have lb := numL_len b
    have lc := numL_len c
    exact implVecText_core Tab (fun _ _ h hb => h.on hb) a b c _ _ _ _ _ _ _ (add_l (numL a) [47] (by omega) (by simp)) (add_l _ (numL b) (by simp; omega) (by omega)) (add_l _ [47] (by simp; omega) (by simp)) (add_l _ (numL c) (by simp; omega) (by omega))
      (fun W hW => implNumText_c a W hW) (fun W hW => implNumText_c b W hW) (fun W hW => implNumText_c c W hW) w h ht
end Go.Proofs.YtejleghdgdbbnaaGreatDoor
