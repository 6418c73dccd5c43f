/- Structs of numbers held against each other: vectors, jobs, commands. -/
import Derived.Test.YtejleghdgdbbnaaGreatDoorJbA
namespace Go.Proofs.YtejleghdgdbbnaaGreatDoor
open Go.ChangeShapes Go.WideShapes Go.ChangeAt Go.RowKit

/-- What the fields of two structs show, one by one. -/
def Fits (P : Program) (d : Nat) (xs ys : Array Value) : List (String × TypeId × Nat) → List Bool → Prop
  | [], [] => True
  | x :: L, r :: rs => (x.1 ≠ "_" ∧ ∃ a b, (∀ w, (part x.2.1 xs x.2.2).run P w = .ok a w) ∧ (∀ w, (part x.2.1 ys x.2.2).run P w = .ok b w) ∧ ∀ w, (Op.equalIn d x.2.1 a b).run P w = .ok r w) ∧ Fits P d xs ys L rs
  | _, _ => False

theorem eqf_fits {P : Program} {d : Nat} {xs ys : Array Value} : ∀ (L : List (String × TypeId × Nat)) (fs : List Field) (rs : List Bool), fs.map (fun f => (f.name, f.type, f.offset)) = L → Fits P d xs ys L rs →
    ∀ w, (Op.eqFields d xs ys fs).run P w = .ok (rs.all id) w
  | [], [], [], _, _, w => by simp [Op.eqFields]
  | x :: L, [], _, h, _, _ => by simp at h
  | [], f :: fs, _, h, _, _ => by simp at h
  | x :: L, f :: fs, [], _, h, _ => by simp [Fits] at h
  | [], [], r :: rs, _, h, _ => by simp [Fits] at h
  | x :: L, f :: fs, r :: rs, h, hf, w => by
    simp only [List.map_cons, List.cons.injEq] at h
    obtain ⟨rfl, h2⟩ := h
    obtain ⟨⟨hn, a, b, h1, h3, h4⟩, hr⟩ := hf
    have hi := eqf_fits L fs rs h2 hr w
    simp only at hn h1 h3 h4
    simp only [Op.eqFields, hn, ne_eq, not_false_eq_true, if_true, Sem.run_bind, h1, h3, h4, Result.andThen_ok]
    cases r <;> simp [hi]

/-- Two vectors, held against each other. -/
def veB (a b c x y z : Int) : Bool := [a == x, b == y, c == z].all id
/-- Two jobs. -/
def jeB (j k : Jb) : Bool := [j.id == k.id, j.pr == k.pr, j.nd == k.nd, veB j.na j.nb j.nc k.na k.nb k.nc, veB j.la j.lb j.lc k.la k.lb k.lc, j.wl == k.wl, j.lv == k.lv].all id
/-- Two commands. -/
def ceB (s : Int) (j : Jb) (n a b c t : Int) (k : Jb) (m x y z : Int) : Bool := [s == t, jeB j k, n == m, veB a b c x y z].all id

theorem vecFields : (Tryz.prog.fieldsOf 24).toList.map (fun f => (f.name, f.type, f.offset)) = [("A", 3, 0), ("B", 3, 1), ("C", 3, 2)] := by kernel_rfl
theorem jobFields : (Tryz.prog.fieldsOf 26).toList.map (fun f => (f.name, f.type, f.offset)) = [("Id", 3, 0), ("Prio", 3, 1), ("Nodes", 3, 2), ("Need", 24, 3), ("Lic", 24, 6), ("Wall", 3, 9), ("Level", 3, 10)] := by kernel_rfl
theorem cmdFields : (Tryz.prog.fieldsOf 28).toList.map (fun f => (f.name, f.type, f.offset)) = [("Kind", 3, 0), ("Job", 26, 1), ("N", 3, 12), ("Lic", 24, 13)] := by kernel_rfl

set_option maxRecDepth 100000 in
theorem eq_vec (d : Nat) (a b c x y z : Int) (w : World) : (Op.equalIn (d + 2) 24 (.agg #[.int .i64 a, .int .i64 b, .int .i64 c]) (.agg #[.int .i64 x, .int .i64 y, .int .i64 z])).run Tryz.prog w = .ok (veB a b c x y z) w := by
  rw [run_equalIn_struct w (d + 1) 24 _ _ (by rfl) (by kernel_rfl)]
  refine eqf_fits _ _ [a == x, b == y, c == z] vecFields ?_ w
  refine ⟨⟨by decide, .int .i64 a, .int .i64 x, fun w => by simp [go_sem], fun w => by simp [go_sem], fun w => run_equalIn_int w d 3 _ _ _ _ Tryz.underlying3⟩, ?_⟩
  refine ⟨⟨by decide, .int .i64 b, .int .i64 y, fun w => by simp [go_sem], fun w => by simp [go_sem], fun w => run_equalIn_int w d 3 _ _ _ _ Tryz.underlying3⟩, ?_⟩
  exact ⟨⟨by decide, .int .i64 c, .int .i64 z, fun w => by simp [go_sem], fun w => by simp [go_sem], fun w => run_equalIn_int w d 3 _ _ _ _ Tryz.underlying3⟩, trivial⟩

set_option maxRecDepth 100000 in
theorem eq_job (d : Nat) (j k : Jb) (w : World) : (Op.equalIn (d + 3) 26 (.agg #[.int .i64 j.id, .int .i64 j.pr, .int .i64 j.nd, .int .i64 j.na, .int .i64 j.nb, .int .i64 j.nc, .int .i64 j.la, .int .i64 j.lb, .int .i64 j.lc, .int .i64 j.wl, .int .i64 j.lv]) (.agg #[.int .i64 k.id, .int .i64 k.pr, .int .i64 k.nd, .int .i64 k.na, .int .i64 k.nb, .int .i64 k.nc, .int .i64 k.la, .int .i64 k.lb, .int .i64 k.lc, .int .i64 k.wl, .int .i64 k.lv])).run Tryz.prog w = .ok (jeB j k) w := by
  rw [run_equalIn_struct w (d + 2) 26 _ _ (by rfl) (by kernel_rfl)]
  refine eqf_fits _ _ [j.id == k.id, j.pr == k.pr, j.nd == k.nd, veB j.na j.nb j.nc k.na k.nb k.nc, veB j.la j.lb j.lc k.la k.lb k.lc, j.wl == k.wl, j.lv == k.lv] jobFields ?_ w
  refine ⟨⟨by decide, .int .i64 j.id, .int .i64 k.id, fun w => by simp [go_sem], fun w => by simp [go_sem], fun w => run_equalIn_int w (d + 1) 3 _ _ _ _ Tryz.underlying3⟩, ?_⟩
  refine ⟨⟨by decide, .int .i64 j.pr, .int .i64 k.pr, fun w => by simp [go_sem], fun w => by simp [go_sem], fun w => run_equalIn_int w (d + 1) 3 _ _ _ _ Tryz.underlying3⟩, ?_⟩
  refine ⟨⟨by decide, .int .i64 j.nd, .int .i64 k.nd, fun w => by simp [go_sem], fun w => by simp [go_sem], fun w => run_equalIn_int w (d + 1) 3 _ _ _ _ Tryz.underlying3⟩, ?_⟩
  refine ⟨⟨by decide, .agg #[.int .i64 j.na, .int .i64 j.nb, .int .i64 j.nc], .agg #[.int .i64 k.na, .int .i64 k.nb, .int .i64 k.nc], fun w => by simp [go_sem], fun w => by simp [go_sem], fun w => eq_vec d _ _ _ _ _ _ w⟩, ?_⟩
  refine ⟨⟨by decide, .agg #[.int .i64 j.la, .int .i64 j.lb, .int .i64 j.lc], .agg #[.int .i64 k.la, .int .i64 k.lb, .int .i64 k.lc], fun w => by simp [go_sem], fun w => by simp [go_sem], fun w => eq_vec d _ _ _ _ _ _ w⟩, ?_⟩
  refine ⟨⟨by decide, .int .i64 j.wl, .int .i64 k.wl, fun w => by simp [go_sem], fun w => by simp [go_sem], fun w => run_equalIn_int w (d + 1) 3 _ _ _ _ Tryz.underlying3⟩, ?_⟩
  exact ⟨⟨by decide, .int .i64 j.lv, .int .i64 k.lv, fun w => by simp [go_sem], fun w => by simp [go_sem], fun w => run_equalIn_int w (d + 1) 3 _ _ _ _ Tryz.underlying3⟩, trivial⟩

set_option maxRecDepth 100000 in
theorem eq_cmd (d : Nat) (s : Int) (j : Jb) (n a b c t : Int) (k : Jb) (m x y z : Int) (w : World) : (Op.equalIn (d + 4) 28 (.agg #[.int .i64 s, .int .i64 j.id, .int .i64 j.pr, .int .i64 j.nd, .int .i64 j.na, .int .i64 j.nb, .int .i64 j.nc, .int .i64 j.la, .int .i64 j.lb, .int .i64 j.lc, .int .i64 j.wl, .int .i64 j.lv, .int .i64 n, .int .i64 a, .int .i64 b, .int .i64 c]) (.agg #[.int .i64 t, .int .i64 k.id, .int .i64 k.pr, .int .i64 k.nd, .int .i64 k.na, .int .i64 k.nb, .int .i64 k.nc, .int .i64 k.la, .int .i64 k.lb, .int .i64 k.lc, .int .i64 k.wl, .int .i64 k.lv, .int .i64 m, .int .i64 x, .int .i64 y, .int .i64 z])).run Tryz.prog w = .ok (ceB s j n a b c t k m x y z) w := by
  rw [run_equalIn_struct w (d + 3) 28 _ _ (by rfl) (by kernel_rfl)]
  refine eqf_fits _ _ [s == t, jeB j k, n == m, veB a b c x y z] cmdFields ?_ w
  refine ⟨⟨by decide, .int .i64 s, .int .i64 t, fun w => by simp [go_sem], fun w => by simp [go_sem], fun w => run_equalIn_int w (d + 2) 3 _ _ _ _ Tryz.underlying3⟩, ?_⟩
  refine ⟨⟨by decide, .agg #[.int .i64 j.id, .int .i64 j.pr, .int .i64 j.nd, .int .i64 j.na, .int .i64 j.nb, .int .i64 j.nc, .int .i64 j.la, .int .i64 j.lb, .int .i64 j.lc, .int .i64 j.wl, .int .i64 j.lv], .agg #[.int .i64 k.id, .int .i64 k.pr, .int .i64 k.nd, .int .i64 k.na, .int .i64 k.nb, .int .i64 k.nc, .int .i64 k.la, .int .i64 k.lb, .int .i64 k.lc, .int .i64 k.wl, .int .i64 k.lv], fun w => by simp [go_sem], fun w => by simp [go_sem], fun w => eq_job d j k w⟩, ?_⟩
  refine ⟨⟨by decide, .int .i64 n, .int .i64 m, fun w => by simp [go_sem], fun w => by simp [go_sem], fun w => run_equalIn_int w (d + 2) 3 _ _ _ _ Tryz.underlying3⟩, ?_⟩
  exact ⟨⟨by decide, .agg #[.int .i64 a, .int .i64 b, .int .i64 c], .agg #[.int .i64 x, .int .i64 y, .int .i64 z], fun w => by simp [go_sem], fun w => by simp [go_sem], fun w => eq_vec (d + 1) _ _ _ _ _ _ w⟩, trivial⟩
end Go.Proofs.YtejleghdgdbbnaaGreatDoor
