/- The words of a job: the program's. -/
import Derived.Test.YtejleghdgdbbnaaDoorCmV
import Derived.Test.YtejleghdgdbbnaaDoorCmG
namespace Go.Proofs.YtejleghdgdbbnaaDoor
open Go.ChangeShapes Go.WideShapes Go.ChangeAt Go.RowKit

theorem heldJ {V w' : World} {B : Nat} {j : Jb} (hr : Row V B j.cells) (h : Below V.heap.size V w') : Below V.heap.size V w' ∧ w'.cell? ⟨B, 0, none⟩ = some (.int .i64 j.id) ∧ w'.cell? ⟨B, 1, none⟩ = some (.int .i64 j.pr) ∧ w'.cell? ⟨B, 2, none⟩ = some (.int .i64 j.nd) ∧ w'.cell? ⟨B, 3, none⟩ = some (.int .i64 j.na) ∧ w'.cell? ⟨B, 4, none⟩ = some (.int .i64 j.nb) ∧ w'.cell? ⟨B, 5, none⟩ = some (.int .i64 j.nc) ∧ w'.cell? ⟨B, 6, none⟩ = some (.int .i64 j.la) ∧ w'.cell? ⟨B, 7, none⟩ = some (.int .i64 j.lb) ∧ w'.cell? ⟨B, 8, none⟩ = some (.int .i64 j.lc) ∧ w'.cell? ⟨B, 9, none⟩ = some (.int .i64 j.wl) ∧ w'.cell? ⟨B, 10, none⟩ = some (.int .i64 j.lv) :=
  ⟨h, (hr.below h).cell 0 _ rfl, (hr.below h).cell 1 _ rfl, (hr.below h).cell 2 _ rfl, (hr.below h).cell 3 _ rfl, (hr.below h).cell 4 _ rfl, (hr.below h).cell 5 _ rfl, (hr.below h).cell 6 _ rfl, (hr.below h).cell 7 _ rfl, (hr.below h).cell 8 _ rfl, (hr.below h).cell 9 _ rfl, (hr.below h).cell 10 _ rfl⟩

set_option maxHeartbeats 4000000 in
set_option maxRecDepth 100000 in
theorem jobWords_c (j : Jb) (w : World) (ht : Tab w) : Calls Tryd.prog 61 #[.agg #[.int .i64 j.id, .int .i64 j.pr, .int .i64 j.nd, .int .i64 j.na, .int .i64 j.nb, .int .i64 j.nc, .int .i64 j.la, .int .i64 j.lb, .int .i64 j.lc, .int .i64 j.wl, .int .i64 j.lv]] w fun e w' => ∃ g, e = .returned (.slice (some ⟨g, 0, none⟩) 7 7) ∧ Row w' g (strs (jwL j)) ∧ Below w.heap.size w w' := by
  have HT : Hid (Tab w) := ht
  clear ht
  obtain ⟨N0, hN0, C0⟩ : ∃ N, Hid (N = (⟨(numL j.id).toArray⟩ : ByteArray)) ∧ ∀ W, Below w.heap.size w W → Calls Tryd.prog 38 #[.int .i64 j.id] W fun e w' => e = .returned (.string N) ∧ Below W.heap.size W w' := ⟨_, hid_rfl, fun W hW => implNumText_c j.id W (HT.out.on hW)⟩
  obtain ⟨N1, hN1, C1⟩ : ∃ N, Hid (N = (⟨(numL j.pr).toArray⟩ : ByteArray)) ∧ ∀ W, Below w.heap.size w W → Calls Tryd.prog 38 #[.int .i64 j.pr] W fun e w' => e = .returned (.string N) ∧ Below W.heap.size W w' := ⟨_, hid_rfl, fun W hW => implNumText_c j.pr W (HT.out.on hW)⟩
  obtain ⟨N2, hN2, C2⟩ : ∃ N, Hid (N = (⟨(numL j.nd).toArray⟩ : ByteArray)) ∧ ∀ W, Below w.heap.size w W → Calls Tryd.prog 38 #[.int .i64 j.nd] W fun e w' => e = .returned (.string N) ∧ Below W.heap.size W w' := ⟨_, hid_rfl, fun W hW => implNumText_c j.nd W (HT.out.on hW)⟩
  obtain ⟨N3, hN3, C3⟩ : ∃ N, Hid (N = (⟨(vtL j.na j.nb j.nc).toArray⟩ : ByteArray)) ∧ ∀ W, Below w.heap.size w W → Calls Tryd.prog 62 #[.agg #[.int .i64 j.na, .int .i64 j.nb, .int .i64 j.nc]] W fun e w' => e = .returned (.string N) ∧ Below W.heap.size W w' := ⟨_, hid_rfl, fun W hW => implVecText_all j.na j.nb j.nc W (HT.out.on hW)⟩
  obtain ⟨N4, hN4, C4⟩ : ∃ N, Hid (N = (⟨(vtL j.la j.lb j.lc).toArray⟩ : ByteArray)) ∧ ∀ W, Below w.heap.size w W → Calls Tryd.prog 62 #[.agg #[.int .i64 j.la, .int .i64 j.lb, .int .i64 j.lc]] W fun e w' => e = .returned (.string N) ∧ Below W.heap.size W w' := ⟨_, hid_rfl, fun W hW => implVecText_all j.la j.lb j.lc W (HT.out.on hW)⟩
  obtain ⟨N5, hN5, C5⟩ : ∃ N, Hid (N = (⟨(numL j.wl).toArray⟩ : ByteArray)) ∧ ∀ W, Below w.heap.size w W → Calls Tryd.prog 38 #[.int .i64 j.wl] W fun e w' => e = .returned (.string N) ∧ Below W.heap.size W w' := ⟨_, hid_rfl, fun W hW => implNumText_c j.wl W (HT.out.on hW)⟩
  obtain ⟨N6, hN6, C6⟩ : ∃ N, Hid (N = (⟨(numL j.lv).toArray⟩ : ByteArray)) ∧ ∀ W, Below w.heap.size w W → Calls Tryd.prog 38 #[.int .i64 j.lv] W fun e w' => e = .returned (.string N) ∧ Below W.heap.size W w' := ⟨_, hid_rfl, fun W hW => implNumText_c j.lv W (HT.out.on hW)⟩
  have HS : Hid ([Value.string N0, .string N1, .string N2, .string N3, .string N4, .string N5, .string N6] = strs (jwL j)) := by show _ = _; rw [hN0.out, hN1.out, hN2.out, hN3.out, hN4.out, hN5.out, hN6.out]; rfl
  clear hN0 hN1 hN2 hN3 hN4 hN5 hN6
  go_enter Tryd.func61, Tryd.ntmps61
  go_wp2_with fail
  generalize hV : w.alloc (.cells #[.int .i64 j.id, .int .i64 j.pr, .int .i64 j.nd, .int .i64 j.na, .int .i64 j.nb, .int .i64 j.nc, .int .i64 j.la, .int .i64 j.lb, .int .i64 j.lc, .int .i64 j.wl, .int .i64 j.lv] 26) = V
  have HA : Hid (Row V w.heap.size j.cells) := by subst hV; exact row_fresh w j.cells 26
  have HB0 : Hid (Below w.heap.size w V) := by subst hV; exact low_alloc _ _
  clear hV
  go_region_held3 (fun w' => Below V.heap.size V w' ∧ w'.cell? ⟨w.heap.size, 0, none⟩ = some (.int .i64 j.id) ∧ w'.cell? ⟨w.heap.size, 1, none⟩ = some (.int .i64 j.pr) ∧ w'.cell? ⟨w.heap.size, 2, none⟩ = some (.int .i64 j.nd) ∧ w'.cell? ⟨w.heap.size, 3, none⟩ = some (.int .i64 j.na) ∧ w'.cell? ⟨w.heap.size, 4, none⟩ = some (.int .i64 j.nb) ∧ w'.cell? ⟨w.heap.size, 5, none⟩ = some (.int .i64 j.nc) ∧ w'.cell? ⟨w.heap.size, 6, none⟩ = some (.int .i64 j.la) ∧ w'.cell? ⟨w.heap.size, 7, none⟩ = some (.int .i64 j.lb) ∧ w'.cell? ⟨w.heap.size, 8, none⟩ = some (.int .i64 j.lc) ∧ w'.cell? ⟨w.heap.size, 9, none⟩ = some (.int .i64 j.wl) ∧ w'.cell? ⟨w.heap.size, 10, none⟩ = some (.int .i64 j.lv)) ((go_split_ands; refine heldJ HA.out ?_; first | (with_reducible assumption) | (exact low_drew _) | (exact below_then (by with_reducible assumption) (by with_reducible assumption)) | (exact behind_alloc (by with_reducible assumption) _) | (go_grown; done)))
    (first
    | (go_at_call_of 38 (Value.int IntKind.i64 j.id); refine (C0 _ (below_then HB0.out (And.left (by with_reducible assumption)))).mono ?_; rintro e w1 ⟨rfl, hb1⟩)
    | (go_at_call_of 38 (Value.int IntKind.i64 j.pr); refine (C1 _ (below_then HB0.out (And.left (by with_reducible assumption)))).mono ?_; rintro e w2 ⟨rfl, hb2⟩)
    | (go_at_call_of 38 (Value.int IntKind.i64 j.nd); refine (C2 _ (below_then HB0.out (And.left (by with_reducible assumption)))).mono ?_; rintro e w3 ⟨rfl, hb3⟩)
    | (go_at_call_of 62 (Value.agg #[Value.int IntKind.i64 j.na, Value.int IntKind.i64 j.nb, Value.int IntKind.i64 j.nc]); refine (C3 _ (below_then HB0.out (And.left (by with_reducible assumption)))).mono ?_; rintro e w4 ⟨rfl, hb4⟩)
    | (go_at_call_of 62 (Value.agg #[Value.int IntKind.i64 j.la, Value.int IntKind.i64 j.lb, Value.int IntKind.i64 j.lc]); refine (C4 _ (below_then HB0.out (And.left (by with_reducible assumption)))).mono ?_; rintro e w5 ⟨rfl, hb5⟩)
    | (go_at_call_of 38 (Value.int IntKind.i64 j.wl); refine (C5 _ (below_then HB0.out (And.left (by with_reducible assumption)))).mono ?_; rintro e w6 ⟨rfl, hb6⟩)
    | (go_at_call_of 38 (Value.int IntKind.i64 j.lv); refine (C6 _ (below_then HB0.out (And.left (by with_reducible assumption)))).mono ?_; rintro e w7 ⟨rfl, hb7⟩))
  go_split_ands
  have HR := row_fresh w7 [.string N0, .string N1, .string N2, .string N3, .string N4, .string N5, .string N6] 9
  have HR9 : Hid (Row (w7.alloc (.cells #[.string N0, .string N1, .string N2, .string N3, .string N4, .string N5, .string N6] 9)) w7.heap.size (strs (jwL j))) := by rw [← HS.out]; exact HR
  have HB9 : Hid (Below w.heap.size w (w7.alloc (.cells #[.string N0, .string N1, .string N2, .string N3, .string N4, .string N5, .string N6] 9))) := below_then HB0.out (by with_reducible assumption)
  clear HR
  go_wp2_with fail
  go_ret
  exact ⟨w7.heap.size, rfl, HR9.out, HB9.out⟩
end Go.Proofs.YtejleghdgdbbnaaDoor
