/- The text of a command: both, for every command. -/
import Derived.Test.YtejleghdgdbbnaaGreatDoorMgUb
import Derived.Test.YtejleghdgdbbnaaGreatDoorCmG
namespace Go.Proofs.YtejleghdgdbbnaaGreatDoor
open Go.ChangeShapes Go.WideShapes Go.ChangeAt Go.RowKit

theorem heldJ {V w' : World} {B : Nat} {j : Jb} (hr : Row V B j.cells) (h : Below V.heap.size V w') : Below V.heap.size V w' ∧ w'.cell? ⟨B, 0, none⟩ = some (.int .i64 j.id) ∧ w'.cell? ⟨B, 1, none⟩ = some (.int .i64 j.pr) ∧ w'.cell? ⟨B, 2, none⟩ = some (.int .i64 j.nd) ∧ w'.cell? ⟨B, 3, none⟩ = some (.int .i64 j.na) ∧ w'.cell? ⟨B, 4, none⟩ = some (.int .i64 j.nb) ∧ w'.cell? ⟨B, 5, none⟩ = some (.int .i64 j.nc) ∧ w'.cell? ⟨B, 6, none⟩ = some (.int .i64 j.la) ∧ w'.cell? ⟨B, 7, none⟩ = some (.int .i64 j.lb) ∧ w'.cell? ⟨B, 8, none⟩ = some (.int .i64 j.lc) ∧ w'.cell? ⟨B, 9, none⟩ = some (.int .i64 j.wl) ∧ w'.cell? ⟨B, 10, none⟩ = some (.int .i64 j.lv) :=
  ⟨h, (hr.below h).cell 0 _ rfl, (hr.below h).cell 1 _ rfl, (hr.below h).cell 2 _ rfl, (hr.below h).cell 3 _ rfl, (hr.below h).cell 4 _ rfl, (hr.below h).cell 5 _ rfl, (hr.below h).cell 6 _ rfl, (hr.below h).cell 7 _ rfl, (hr.below h).cell 8 _ rfl, (hr.below h).cell 9 _ rfl, (hr.below h).cell 10 _ rfl⟩

set_option maxHeartbeats 4000000 in
set_option maxRecDepth 100000 in
theorem jobWords_c (j : Jb) (w : World) (ht : Tab w) : Calls Tryz.prog 54 #[.agg #[.int .i64 j.id, .int .i64 j.pr, .int .i64 j.nd, .int .i64 j.na, .int .i64 j.nb, .int .i64 j.nc, .int .i64 j.la, .int .i64 j.lb, .int .i64 j.lc, .int .i64 j.wl, .int .i64 j.lv]] w fun e w' => ∃ g, e = .returned (.slice (some ⟨g, 0, none⟩) 7 7) ∧ Row w' g (strs (jwL j)) ∧ Below w.heap.size w w' := by
  have HT : Hid (Tab w) := ht
  clear ht
  obtain ⟨N0, hN0, C0⟩ : ∃ N, Hid (N = (⟨(numL j.id).toArray⟩ : ByteArray)) ∧ ∀ W, Below w.heap.size w W → Calls Tryz.prog 15 #[.int .i64 j.id] W fun e w' => e = .returned (.string N) ∧ Below W.heap.size W w' := ⟨_, hid_rfl, fun W hW => implNumText_c j.id W (HT.out.on hW)⟩
  obtain ⟨N1, hN1, C1⟩ : ∃ N, Hid (N = (⟨(numL j.pr).toArray⟩ : ByteArray)) ∧ ∀ W, Below w.heap.size w W → Calls Tryz.prog 15 #[.int .i64 j.pr] W fun e w' => e = .returned (.string N) ∧ Below W.heap.size W w' := ⟨_, hid_rfl, fun W hW => implNumText_c j.pr W (HT.out.on hW)⟩
  obtain ⟨N2, hN2, C2⟩ : ∃ N, Hid (N = (⟨(numL j.nd).toArray⟩ : ByteArray)) ∧ ∀ W, Below w.heap.size w W → Calls Tryz.prog 15 #[.int .i64 j.nd] W fun e w' => e = .returned (.string N) ∧ Below W.heap.size W w' := ⟨_, hid_rfl, fun W hW => implNumText_c j.nd W (HT.out.on hW)⟩
  obtain ⟨N3, hN3, C3⟩ : ∃ N, Hid (N = (⟨(vtL j.na j.nb j.nc).toArray⟩ : ByteArray)) ∧ ∀ W, Below w.heap.size w W → Calls Tryz.prog 55 #[.agg #[.int .i64 j.na, .int .i64 j.nb, .int .i64 j.nc]] W fun e w' => e = .returned (.string N) ∧ Below W.heap.size W w' := ⟨_, hid_rfl, fun W hW => implVecText_all j.na j.nb j.nc W (HT.out.on hW)⟩
  obtain ⟨N4, hN4, C4⟩ : ∃ N, Hid (N = (⟨(vtL j.la j.lb j.lc).toArray⟩ : ByteArray)) ∧ ∀ W, Below w.heap.size w W → Calls Tryz.prog 55 #[.agg #[.int .i64 j.la, .int .i64 j.lb, .int .i64 j.lc]] W fun e w' => e = .returned (.string N) ∧ Below W.heap.size W w' := ⟨_, hid_rfl, fun W hW => implVecText_all j.la j.lb j.lc W (HT.out.on hW)⟩
  obtain ⟨N5, hN5, C5⟩ : ∃ N, Hid (N = (⟨(numL j.wl).toArray⟩ : ByteArray)) ∧ ∀ W, Below w.heap.size w W → Calls Tryz.prog 15 #[.int .i64 j.wl] W fun e w' => e = .returned (.string N) ∧ Below W.heap.size W w' := ⟨_, hid_rfl, fun W hW => implNumText_c j.wl W (HT.out.on hW)⟩
  obtain ⟨N6, hN6, C6⟩ : ∃ N, Hid (N = (⟨(numL j.lv).toArray⟩ : ByteArray)) ∧ ∀ W, Below w.heap.size w W → Calls Tryz.prog 15 #[.int .i64 j.lv] W fun e w' => e = .returned (.string N) ∧ Below W.heap.size W w' := ⟨_, hid_rfl, fun W hW => implNumText_c j.lv W (HT.out.on hW)⟩
  have HS : Hid ([Value.string N0, .string N1, .string N2, .string N3, .string N4, .string N5, .string N6] = strs (jwL j)) := by show _ = _; rw [hN0.out, hN1.out, hN2.out, hN3.out, hN4.out, hN5.out, hN6.out]; rfl
  clear hN0 hN1 hN2 hN3 hN4 hN5 hN6
  go_enter Tryz.func54, Tryz.ntmps54
  go_wp2_with fail
  generalize hV : w.alloc (.cells #[.int .i64 j.id, .int .i64 j.pr, .int .i64 j.nd, .int .i64 j.na, .int .i64 j.nb, .int .i64 j.nc, .int .i64 j.la, .int .i64 j.lb, .int .i64 j.lc, .int .i64 j.wl, .int .i64 j.lv] 26) = V
  have HA : Hid (Row V w.heap.size j.cells) := by subst hV; exact row_fresh w j.cells 26
  have HB0 : Hid (Below w.heap.size w V) := by subst hV; exact low_alloc _ _
  clear hV
  go_region_held3 (fun w' => Below V.heap.size V w' ∧ w'.cell? ⟨w.heap.size, 0, none⟩ = some (.int .i64 j.id) ∧ w'.cell? ⟨w.heap.size, 1, none⟩ = some (.int .i64 j.pr) ∧ w'.cell? ⟨w.heap.size, 2, none⟩ = some (.int .i64 j.nd) ∧ w'.cell? ⟨w.heap.size, 3, none⟩ = some (.int .i64 j.na) ∧ w'.cell? ⟨w.heap.size, 4, none⟩ = some (.int .i64 j.nb) ∧ w'.cell? ⟨w.heap.size, 5, none⟩ = some (.int .i64 j.nc) ∧ w'.cell? ⟨w.heap.size, 6, none⟩ = some (.int .i64 j.la) ∧ w'.cell? ⟨w.heap.size, 7, none⟩ = some (.int .i64 j.lb) ∧ w'.cell? ⟨w.heap.size, 8, none⟩ = some (.int .i64 j.lc) ∧ w'.cell? ⟨w.heap.size, 9, none⟩ = some (.int .i64 j.wl) ∧ w'.cell? ⟨w.heap.size, 10, none⟩ = some (.int .i64 j.lv)) ((go_split_ands; refine heldJ HA.out ?_; first | (with_reducible assumption) | (exact low_drew _) | (exact below_then (by with_reducible assumption) (by with_reducible assumption)) | (exact behind_alloc (by with_reducible assumption) _) | (go_grown; done)))
    (first
    | (go_at_call_of 15 (Value.int IntKind.i64 j.id); refine (C0 _ (below_then HB0.out (And.left (by with_reducible assumption)))).mono ?_; rintro e w1 ⟨rfl, hb1⟩)
    | (go_at_call_of 15 (Value.int IntKind.i64 j.pr); refine (C1 _ (below_then HB0.out (And.left (by with_reducible assumption)))).mono ?_; rintro e w2 ⟨rfl, hb2⟩)
    | (go_at_call_of 15 (Value.int IntKind.i64 j.nd); refine (C2 _ (below_then HB0.out (And.left (by with_reducible assumption)))).mono ?_; rintro e w3 ⟨rfl, hb3⟩)
    | (go_at_call_of 55 (Value.agg #[Value.int IntKind.i64 j.na, Value.int IntKind.i64 j.nb, Value.int IntKind.i64 j.nc]); refine (C3 _ (below_then HB0.out (And.left (by with_reducible assumption)))).mono ?_; rintro e w4 ⟨rfl, hb4⟩)
    | (go_at_call_of 55 (Value.agg #[Value.int IntKind.i64 j.la, Value.int IntKind.i64 j.lb, Value.int IntKind.i64 j.lc]); refine (C4 _ (below_then HB0.out (And.left (by with_reducible assumption)))).mono ?_; rintro e w5 ⟨rfl, hb5⟩)
    | (go_at_call_of 15 (Value.int IntKind.i64 j.wl); refine (C5 _ (below_then HB0.out (And.left (by with_reducible assumption)))).mono ?_; rintro e w6 ⟨rfl, hb6⟩)
    | (go_at_call_of 15 (Value.int IntKind.i64 j.lv); refine (C6 _ (below_then HB0.out (And.left (by with_reducible assumption)))).mono ?_; rintro e w7 ⟨rfl, hb7⟩))
  go_split_ands
  have HR := row_fresh w7 [.string N0, .string N1, .string N2, .string N3, .string N4, .string N5, .string N6] 9
  have HR9 : Hid (Row (w7.alloc (.cells #[.string N0, .string N1, .string N2, .string N3, .string N4, .string N5, .string N6] 9)) w7.heap.size (strs (jwL j))) := by rw [← HS.out]; exact HR
  have HB9 : Hid (Below w.heap.size w (w7.alloc (.cells #[.string N0, .string N1, .string N2, .string N3, .string N4, .string N5, .string N6] 9))) := below_then HB0.out (by with_reducible assumption)
  clear HR
  go_wp2_with fail
  go_ret
  exact ⟨w7.heap.size, rfl, HR9.out, HB9.out⟩
end Go.Proofs.YtejleghdgdbbnaaGreatDoor

namespace Go.Proofs.YtejleghdgdbbnaaGreatDoor
open Go.ChangeShapes Go.WideShapes Go.ChangeAt Go.RowKit

/-- The program's own words of the kinds lie as its text lays them. -/
def KwT (w : World) : Prop := w.var? Tryz.prog "loop.example/g00454/impl.kindWords" = some kwV.toArray ∧ 1 < w.heap.size
theorem gKw : Tryz.prog.globalNamed "loop.example/g00454/impl.kindWords" = some 1 := by kernel_rfl
theorem KwT.on {w w' : World} (h : KwT w) (hb : Below w.heap.size w w') : KwT w' :=
  ⟨var?_below hb gKw h.2 h.1, Nat.lt_of_lt_of_le h.2 hb.size⟩
theorem KwT.cell {w : World} (h : KwT w) (k : Nat) (x : Value) (hx : kwV[k]? = some x) : w.cell? ⟨1, k, none⟩ = some x := by
  have := World.var?_cell gKw h.1 k
  rw [this]; simpa using hx

set_option maxHeartbeats 2000000 in
set_option maxRecDepth 100000 in
theorem cmdWords_2 (j : Jb) (n a b c : Int) (w : World) (ht : Tab w) (hk : KwT w) : Calls Tryz.prog 31 #[.agg #[.int .i64 2, .int .i64 j.id, .int .i64 j.pr, .int .i64 j.nd, .int .i64 j.na, .int .i64 j.nb, .int .i64 j.nc, .int .i64 j.la, .int .i64 j.lb, .int .i64 j.lc, .int .i64 j.wl, .int .i64 j.lv, .int .i64 n, .int .i64 a, .int .i64 b, .int .i64 c]] w fun e w' => ∃ g, e = .returned (.slice (some ⟨g, 0, none⟩) 2 2) ∧ Row w' g (strs (cwL 2 j n a b c)) ∧ Below w.heap.size w w' := by
  have HT : Hid (Tab w) := ht
  have HK : Hid (KwT w) := hk
  have hc := hk.cell 2 (.string ⟨#[99,97,110,99,101,108]⟩) rfl
  have h0 := hk.2
  have hne : 1 ≠ w.heap.size := by omega
  clear ht hk
  go_enter Tryz.func31, Tryz.ntmps31
  go_wp2_with fail
  clear hc h0 hne
  have HR : Hid (Row (w.alloc (.cells #[.int .i64 2, .int .i64 j.id, .int .i64 j.pr, .int .i64 j.nd, .int .i64 j.na, .int .i64 j.nb, .int .i64 j.nc, .int .i64 j.la, .int .i64 j.lb, .int .i64 j.lc, .int .i64 j.wl, .int .i64 j.lv, .int .i64 n, .int .i64 a, .int .i64 b, .int .i64 c] 28)) w.heap.size [.int .i64 2, .int .i64 j.id, .int .i64 j.pr, .int .i64 j.nd, .int .i64 j.na, .int .i64 j.nb, .int .i64 j.nc, .int .i64 j.la, .int .i64 j.lb, .int .i64 j.lc, .int .i64 j.wl, .int .i64 j.lv, .int .i64 n, .int .i64 a, .int .i64 b, .int .i64 c]) := row_fresh w [.int .i64 2, .int .i64 j.id, .int .i64 j.pr, .int .i64 j.nd, .int .i64 j.na, .int .i64 j.nb, .int .i64 j.nc, .int .i64 j.la, .int .i64 j.lb, .int .i64 j.lc, .int .i64 j.wl, .int .i64 j.lv, .int .i64 n, .int .i64 a, .int .i64 b, .int .i64 c] 28
  have HB : Hid (Below w.heap.size w (w.alloc (.cells #[.int .i64 2, .int .i64 j.id, .int .i64 j.pr, .int .i64 j.nd, .int .i64 j.na, .int .i64 j.nb, .int .i64 j.nc, .int .i64 j.la, .int .i64 j.lb, .int .i64 j.lc, .int .i64 j.wl, .int .i64 j.lv, .int .i64 n, .int .i64 a, .int .i64 b, .int .i64 c] 28))) := low_alloc _ _
  generalize w.alloc (.cells #[.int .i64 2, .int .i64 j.id, .int .i64 j.pr, .int .i64 j.nd, .int .i64 j.na, .int .i64 j.nb, .int .i64 j.nc, .int .i64 j.la, .int .i64 j.lb, .int .i64 j.lc, .int .i64 j.wl, .int .i64 j.lv, .int .i64 n, .int .i64 a, .int .i64 b, .int .i64 c] 28) = w0 at HR HB ⊢
  have HS : Hid ([Value.string ⟨#[99,97,110,99,101,108]⟩, .string ⟨(numL n).toArray⟩] = strs (cwL 2 j n a b c)) := by show _ = _; simp [cwL, strs, kwL, kws]
  refine (implNumText_c n _ (HT.out.on HB.out)).mono ?_
  rintro e w1 ⟨rfl, hb⟩
  have HB1 : Hid (Below w.heap.size w w1) := below_then HB.out hb
  clear hb HB HR
  generalize (⟨(numL n).toArray⟩ : ByteArray) = N at HS ⊢
  go_wp2_with fail
  go_ret
  exact ⟨w1.heap.size, rfl, by rw [← HS.out]; exact row_fresh w1 [.string ⟨#[99,97,110,99,101,108]⟩, .string N] 9, behind_alloc HB1.out _⟩
set_option maxHeartbeats 2000000 in
set_option maxRecDepth 100000 in
theorem cmdWords_3 (j : Jb) (n a b c : Int) (w : World) (ht : Tab w) (hk : KwT w) : Calls Tryz.prog 31 #[.agg #[.int .i64 3, .int .i64 j.id, .int .i64 j.pr, .int .i64 j.nd, .int .i64 j.na, .int .i64 j.nb, .int .i64 j.nc, .int .i64 j.la, .int .i64 j.lb, .int .i64 j.lc, .int .i64 j.wl, .int .i64 j.lv, .int .i64 n, .int .i64 a, .int .i64 b, .int .i64 c]] w fun e w' => ∃ g, e = .returned (.slice (some ⟨g, 0, none⟩) 2 2) ∧ Row w' g (strs (cwL 3 j n a b c)) ∧ Below w.heap.size w w' := by
  have HT : Hid (Tab w) := ht
  have HK : Hid (KwT w) := hk
  have hc := hk.cell 3 (.string ⟨#[100,111,110,101]⟩) rfl
  have h0 := hk.2
  have hne : 1 ≠ w.heap.size := by omega
  clear ht hk
  go_enter Tryz.func31, Tryz.ntmps31
  go_wp2_with fail
  clear hc h0 hne
  have HR : Hid (Row (w.alloc (.cells #[.int .i64 3, .int .i64 j.id, .int .i64 j.pr, .int .i64 j.nd, .int .i64 j.na, .int .i64 j.nb, .int .i64 j.nc, .int .i64 j.la, .int .i64 j.lb, .int .i64 j.lc, .int .i64 j.wl, .int .i64 j.lv, .int .i64 n, .int .i64 a, .int .i64 b, .int .i64 c] 28)) w.heap.size [.int .i64 3, .int .i64 j.id, .int .i64 j.pr, .int .i64 j.nd, .int .i64 j.na, .int .i64 j.nb, .int .i64 j.nc, .int .i64 j.la, .int .i64 j.lb, .int .i64 j.lc, .int .i64 j.wl, .int .i64 j.lv, .int .i64 n, .int .i64 a, .int .i64 b, .int .i64 c]) := row_fresh w [.int .i64 3, .int .i64 j.id, .int .i64 j.pr, .int .i64 j.nd, .int .i64 j.na, .int .i64 j.nb, .int .i64 j.nc, .int .i64 j.la, .int .i64 j.lb, .int .i64 j.lc, .int .i64 j.wl, .int .i64 j.lv, .int .i64 n, .int .i64 a, .int .i64 b, .int .i64 c] 28
  have HB : Hid (Below w.heap.size w (w.alloc (.cells #[.int .i64 3, .int .i64 j.id, .int .i64 j.pr, .int .i64 j.nd, .int .i64 j.na, .int .i64 j.nb, .int .i64 j.nc, .int .i64 j.la, .int .i64 j.lb, .int .i64 j.lc, .int .i64 j.wl, .int .i64 j.lv, .int .i64 n, .int .i64 a, .int .i64 b, .int .i64 c] 28))) := low_alloc _ _
  generalize w.alloc (.cells #[.int .i64 3, .int .i64 j.id, .int .i64 j.pr, .int .i64 j.nd, .int .i64 j.na, .int .i64 j.nb, .int .i64 j.nc, .int .i64 j.la, .int .i64 j.lb, .int .i64 j.lc, .int .i64 j.wl, .int .i64 j.lv, .int .i64 n, .int .i64 a, .int .i64 b, .int .i64 c] 28) = w0 at HR HB ⊢
  have HS : Hid ([Value.string ⟨#[100,111,110,101]⟩, .string ⟨(numL n).toArray⟩] = strs (cwL 3 j n a b c)) := by show _ = _; simp [cwL, strs, kwL, kws]
  refine (implNumText_c n _ (HT.out.on HB.out)).mono ?_
  rintro e w1 ⟨rfl, hb⟩
  have HB1 : Hid (Below w.heap.size w w1) := below_then HB.out hb
  clear hb HB HR
  generalize (⟨(numL n).toArray⟩ : ByteArray) = N at HS ⊢
  go_wp2_with fail
  go_ret
  exact ⟨w1.heap.size, rfl, by rw [← HS.out]; exact row_fresh w1 [.string ⟨#[100,111,110,101]⟩, .string N] 9, behind_alloc HB1.out _⟩
set_option maxHeartbeats 2000000 in
set_option maxRecDepth 100000 in
theorem cmdWords_4 (j : Jb) (n a b c : Int) (w : World) (ht : Tab w) (hk : KwT w) : Calls Tryz.prog 31 #[.agg #[.int .i64 4, .int .i64 j.id, .int .i64 j.pr, .int .i64 j.nd, .int .i64 j.na, .int .i64 j.nb, .int .i64 j.nc, .int .i64 j.la, .int .i64 j.lb, .int .i64 j.lc, .int .i64 j.wl, .int .i64 j.lv, .int .i64 n, .int .i64 a, .int .i64 b, .int .i64 c]] w fun e w' => ∃ g, e = .returned (.slice (some ⟨g, 0, none⟩) 2 2) ∧ Row w' g (strs (cwL 4 j n a b c)) ∧ Below w.heap.size w w' := by
  have HT : Hid (Tab w) := ht
  have HK : Hid (KwT w) := hk
  have hc := hk.cell 4 (.string ⟨#[102,97,105,108]⟩) rfl
  have h0 := hk.2
  have hne : 1 ≠ w.heap.size := by omega
  clear ht hk
  go_enter Tryz.func31, Tryz.ntmps31
  go_wp2_with fail
  clear hc h0 hne
  have HR : Hid (Row (w.alloc (.cells #[.int .i64 4, .int .i64 j.id, .int .i64 j.pr, .int .i64 j.nd, .int .i64 j.na, .int .i64 j.nb, .int .i64 j.nc, .int .i64 j.la, .int .i64 j.lb, .int .i64 j.lc, .int .i64 j.wl, .int .i64 j.lv, .int .i64 n, .int .i64 a, .int .i64 b, .int .i64 c] 28)) w.heap.size [.int .i64 4, .int .i64 j.id, .int .i64 j.pr, .int .i64 j.nd, .int .i64 j.na, .int .i64 j.nb, .int .i64 j.nc, .int .i64 j.la, .int .i64 j.lb, .int .i64 j.lc, .int .i64 j.wl, .int .i64 j.lv, .int .i64 n, .int .i64 a, .int .i64 b, .int .i64 c]) := row_fresh w [.int .i64 4, .int .i64 j.id, .int .i64 j.pr, .int .i64 j.nd, .int .i64 j.na, .int .i64 j.nb, .int .i64 j.nc, .int .i64 j.la, .int .i64 j.lb, .int .i64 j.lc, .int .i64 j.wl, .int .i64 j.lv, .int .i64 n, .int .i64 a, .int .i64 b, .int .i64 c] 28
  have HB : Hid (Below w.heap.size w (w.alloc (.cells #[.int .i64 4, .int .i64 j.id, .int .i64 j.pr, .int .i64 j.nd, .int .i64 j.na, .int .i64 j.nb, .int .i64 j.nc, .int .i64 j.la, .int .i64 j.lb, .int .i64 j.lc, .int .i64 j.wl, .int .i64 j.lv, .int .i64 n, .int .i64 a, .int .i64 b, .int .i64 c] 28))) := low_alloc _ _
  generalize w.alloc (.cells #[.int .i64 4, .int .i64 j.id, .int .i64 j.pr, .int .i64 j.nd, .int .i64 j.na, .int .i64 j.nb, .int .i64 j.nc, .int .i64 j.la, .int .i64 j.lb, .int .i64 j.lc, .int .i64 j.wl, .int .i64 j.lv, .int .i64 n, .int .i64 a, .int .i64 b, .int .i64 c] 28) = w0 at HR HB ⊢
  have HS : Hid ([Value.string ⟨#[102,97,105,108]⟩, .string ⟨(numL n).toArray⟩] = strs (cwL 4 j n a b c)) := by show _ = _; simp [cwL, strs, kwL, kws]
  refine (implNumText_c n _ (HT.out.on HB.out)).mono ?_
  rintro e w1 ⟨rfl, hb⟩
  have HB1 : Hid (Below w.heap.size w w1) := below_then HB.out hb
  clear hb HB HR
  generalize (⟨(numL n).toArray⟩ : ByteArray) = N at HS ⊢
  go_wp2_with fail
  go_ret
  exact ⟨w1.heap.size, rfl, by rw [← HS.out]; exact row_fresh w1 [.string ⟨#[102,97,105,108]⟩, .string N] 9, behind_alloc HB1.out _⟩
set_option maxHeartbeats 2000000 in
set_option maxRecDepth 100000 in
theorem cmdWords_5 (j : Jb) (n a b c : Int) (w : World) (ht : Tab w) (hk : KwT w) : Calls Tryz.prog 31 #[.agg #[.int .i64 5, .int .i64 j.id, .int .i64 j.pr, .int .i64 j.nd, .int .i64 j.na, .int .i64 j.nb, .int .i64 j.nc, .int .i64 j.la, .int .i64 j.lb, .int .i64 j.lc, .int .i64 j.wl, .int .i64 j.lv, .int .i64 n, .int .i64 a, .int .i64 b, .int .i64 c]] w fun e w' => ∃ g, e = .returned (.slice (some ⟨g, 0, none⟩) 2 2) ∧ Row w' g (strs (cwL 5 j n a b c)) ∧ Below w.heap.size w w' := by
  have HT : Hid (Tab w) := ht
  have HK : Hid (KwT w) := hk
  have hc := hk.cell 5 (.string ⟨#[114,101,115,117,109,101]⟩) rfl
  have h0 := hk.2
  have hne : 1 ≠ w.heap.size := by omega
  clear ht hk
  go_enter Tryz.func31, Tryz.ntmps31
  go_wp2_with fail
  clear hc h0 hne
  have HR : Hid (Row (w.alloc (.cells #[.int .i64 5, .int .i64 j.id, .int .i64 j.pr, .int .i64 j.nd, .int .i64 j.na, .int .i64 j.nb, .int .i64 j.nc, .int .i64 j.la, .int .i64 j.lb, .int .i64 j.lc, .int .i64 j.wl, .int .i64 j.lv, .int .i64 n, .int .i64 a, .int .i64 b, .int .i64 c] 28)) w.heap.size [.int .i64 5, .int .i64 j.id, .int .i64 j.pr, .int .i64 j.nd, .int .i64 j.na, .int .i64 j.nb, .int .i64 j.nc, .int .i64 j.la, .int .i64 j.lb, .int .i64 j.lc, .int .i64 j.wl, .int .i64 j.lv, .int .i64 n, .int .i64 a, .int .i64 b, .int .i64 c]) := row_fresh w [.int .i64 5, .int .i64 j.id, .int .i64 j.pr, .int .i64 j.nd, .int .i64 j.na, .int .i64 j.nb, .int .i64 j.nc, .int .i64 j.la, .int .i64 j.lb, .int .i64 j.lc, .int .i64 j.wl, .int .i64 j.lv, .int .i64 n, .int .i64 a, .int .i64 b, .int .i64 c] 28
  have HB : Hid (Below w.heap.size w (w.alloc (.cells #[.int .i64 5, .int .i64 j.id, .int .i64 j.pr, .int .i64 j.nd, .int .i64 j.na, .int .i64 j.nb, .int .i64 j.nc, .int .i64 j.la, .int .i64 j.lb, .int .i64 j.lc, .int .i64 j.wl, .int .i64 j.lv, .int .i64 n, .int .i64 a, .int .i64 b, .int .i64 c] 28))) := low_alloc _ _
  generalize w.alloc (.cells #[.int .i64 5, .int .i64 j.id, .int .i64 j.pr, .int .i64 j.nd, .int .i64 j.na, .int .i64 j.nb, .int .i64 j.nc, .int .i64 j.la, .int .i64 j.lb, .int .i64 j.lc, .int .i64 j.wl, .int .i64 j.lv, .int .i64 n, .int .i64 a, .int .i64 b, .int .i64 c] 28) = w0 at HR HB ⊢
  have HS : Hid ([Value.string ⟨#[114,101,115,117,109,101]⟩, .string ⟨(numL n).toArray⟩] = strs (cwL 5 j n a b c)) := by show _ = _; simp [cwL, strs, kwL, kws]
  refine (implNumText_c n _ (HT.out.on HB.out)).mono ?_
  rintro e w1 ⟨rfl, hb⟩
  have HB1 : Hid (Below w.heap.size w w1) := below_then HB.out hb
  clear hb HB HR
  generalize (⟨(numL n).toArray⟩ : ByteArray) = N at HS ⊢
  go_wp2_with fail
  go_ret
  exact ⟨w1.heap.size, rfl, by rw [← HS.out]; exact row_fresh w1 [.string ⟨#[114,101,115,117,109,101]⟩, .string N] 9, behind_alloc HB1.out _⟩
set_option maxHeartbeats 2000000 in
set_option maxRecDepth 100000 in
theorem cmdWords_7 (j : Jb) (n a b c : Int) (w : World) (ht : Tab w) (hk : KwT w) : Calls Tryz.prog 31 #[.agg #[.int .i64 7, .int .i64 j.id, .int .i64 j.pr, .int .i64 j.nd, .int .i64 j.na, .int .i64 j.nb, .int .i64 j.nc, .int .i64 j.la, .int .i64 j.lb, .int .i64 j.lc, .int .i64 j.wl, .int .i64 j.lv, .int .i64 n, .int .i64 a, .int .i64 b, .int .i64 c]] w fun e w' => ∃ g, e = .returned (.slice (some ⟨g, 0, none⟩) 2 2) ∧ Row w' g (strs (cwL 7 j n a b c)) ∧ Below w.heap.size w w' := by
  have HT : Hid (Tab w) := ht
  have HK : Hid (KwT w) := hk
  have hc := hk.cell 7 (.string ⟨#[103,111]⟩) rfl
  have h0 := hk.2
  have hne : 1 ≠ w.heap.size := by omega
  clear ht hk
  go_enter Tryz.func31, Tryz.ntmps31
  go_wp2_with fail
  clear hc h0 hne
  have HR : Hid (Row (w.alloc (.cells #[.int .i64 7, .int .i64 j.id, .int .i64 j.pr, .int .i64 j.nd, .int .i64 j.na, .int .i64 j.nb, .int .i64 j.nc, .int .i64 j.la, .int .i64 j.lb, .int .i64 j.lc, .int .i64 j.wl, .int .i64 j.lv, .int .i64 n, .int .i64 a, .int .i64 b, .int .i64 c] 28)) w.heap.size [.int .i64 7, .int .i64 j.id, .int .i64 j.pr, .int .i64 j.nd, .int .i64 j.na, .int .i64 j.nb, .int .i64 j.nc, .int .i64 j.la, .int .i64 j.lb, .int .i64 j.lc, .int .i64 j.wl, .int .i64 j.lv, .int .i64 n, .int .i64 a, .int .i64 b, .int .i64 c]) := row_fresh w [.int .i64 7, .int .i64 j.id, .int .i64 j.pr, .int .i64 j.nd, .int .i64 j.na, .int .i64 j.nb, .int .i64 j.nc, .int .i64 j.la, .int .i64 j.lb, .int .i64 j.lc, .int .i64 j.wl, .int .i64 j.lv, .int .i64 n, .int .i64 a, .int .i64 b, .int .i64 c] 28
  have HB : Hid (Below w.heap.size w (w.alloc (.cells #[.int .i64 7, .int .i64 j.id, .int .i64 j.pr, .int .i64 j.nd, .int .i64 j.na, .int .i64 j.nb, .int .i64 j.nc, .int .i64 j.la, .int .i64 j.lb, .int .i64 j.lc, .int .i64 j.wl, .int .i64 j.lv, .int .i64 n, .int .i64 a, .int .i64 b, .int .i64 c] 28))) := low_alloc _ _
  generalize w.alloc (.cells #[.int .i64 7, .int .i64 j.id, .int .i64 j.pr, .int .i64 j.nd, .int .i64 j.na, .int .i64 j.nb, .int .i64 j.nc, .int .i64 j.la, .int .i64 j.lb, .int .i64 j.lc, .int .i64 j.wl, .int .i64 j.lv, .int .i64 n, .int .i64 a, .int .i64 b, .int .i64 c] 28) = w0 at HR HB ⊢
  have HS : Hid ([Value.string ⟨#[103,111]⟩, .string ⟨(numL n).toArray⟩] = strs (cwL 7 j n a b c)) := by show _ = _; simp [cwL, strs, kwL, kws]
  refine (implNumText_c n _ (HT.out.on HB.out)).mono ?_
  rintro e w1 ⟨rfl, hb⟩
  have HB1 : Hid (Below w.heap.size w w1) := below_then HB.out hb
  clear hb HB HR
  generalize (⟨(numL n).toArray⟩ : ByteArray) = N at HS ⊢
  go_wp2_with fail
  go_ret
  exact ⟨w1.heap.size, rfl, by rw [← HS.out]; exact row_fresh w1 [.string ⟨#[103,111]⟩, .string N] 9, behind_alloc HB1.out _⟩
set_option maxHeartbeats 2000000 in
set_option maxRecDepth 100000 in
theorem cmdWords_6 (j : Jb) (n a b c : Int) (w : World) (ht : Tab w) (hk : KwT w) : Calls Tryz.prog 31 #[.agg #[.int .i64 6, .int .i64 j.id, .int .i64 j.pr, .int .i64 j.nd, .int .i64 j.na, .int .i64 j.nb, .int .i64 j.nc, .int .i64 j.la, .int .i64 j.lb, .int .i64 j.lc, .int .i64 j.wl, .int .i64 j.lv, .int .i64 n, .int .i64 a, .int .i64 b, .int .i64 c]] w fun e w' => ∃ g, e = .returned (.slice (some ⟨g, 0, none⟩) 2 2) ∧ Row w' g (strs (cwL 6 j n a b c)) ∧ Below w.heap.size w w' := by
  have HT : Hid (Tab w) := ht
  have HK : Hid (KwT w) := hk
  have hc := hk.cell 6 (.string ⟨#[108,105,99]⟩) rfl
  have h0 := hk.2
  have hne : 1 ≠ w.heap.size := by omega
  clear ht hk
  go_enter Tryz.func31, Tryz.ntmps31
  go_wp2_with fail
  clear hc h0 hne
  have HR : Hid (Row (w.alloc (.cells #[.int .i64 6, .int .i64 j.id, .int .i64 j.pr, .int .i64 j.nd, .int .i64 j.na, .int .i64 j.nb, .int .i64 j.nc, .int .i64 j.la, .int .i64 j.lb, .int .i64 j.lc, .int .i64 j.wl, .int .i64 j.lv, .int .i64 n, .int .i64 a, .int .i64 b, .int .i64 c] 28)) w.heap.size [.int .i64 6, .int .i64 j.id, .int .i64 j.pr, .int .i64 j.nd, .int .i64 j.na, .int .i64 j.nb, .int .i64 j.nc, .int .i64 j.la, .int .i64 j.lb, .int .i64 j.lc, .int .i64 j.wl, .int .i64 j.lv, .int .i64 n, .int .i64 a, .int .i64 b, .int .i64 c]) := row_fresh w [.int .i64 6, .int .i64 j.id, .int .i64 j.pr, .int .i64 j.nd, .int .i64 j.na, .int .i64 j.nb, .int .i64 j.nc, .int .i64 j.la, .int .i64 j.lb, .int .i64 j.lc, .int .i64 j.wl, .int .i64 j.lv, .int .i64 n, .int .i64 a, .int .i64 b, .int .i64 c] 28
  have HB : Hid (Below w.heap.size w (w.alloc (.cells #[.int .i64 6, .int .i64 j.id, .int .i64 j.pr, .int .i64 j.nd, .int .i64 j.na, .int .i64 j.nb, .int .i64 j.nc, .int .i64 j.la, .int .i64 j.lb, .int .i64 j.lc, .int .i64 j.wl, .int .i64 j.lv, .int .i64 n, .int .i64 a, .int .i64 b, .int .i64 c] 28))) := low_alloc _ _
  generalize w.alloc (.cells #[.int .i64 6, .int .i64 j.id, .int .i64 j.pr, .int .i64 j.nd, .int .i64 j.na, .int .i64 j.nb, .int .i64 j.nc, .int .i64 j.la, .int .i64 j.lb, .int .i64 j.lc, .int .i64 j.wl, .int .i64 j.lv, .int .i64 n, .int .i64 a, .int .i64 b, .int .i64 c] 28) = w0 at HR HB ⊢
  have HS : Hid ([Value.string ⟨#[108,105,99]⟩, .string ⟨(vtL a b c).toArray⟩] = strs (cwL 6 j n a b c)) := by show _ = _; simp [cwL, strs, kwL, kws]
  refine (implVecText_all a b c _ (HT.out.on HB.out)).mono ?_
  rintro e w1 ⟨rfl, hb⟩
  have HB1 : Hid (Below w.heap.size w w1) := below_then HB.out hb
  clear hb HB HR
  generalize (⟨(vtL a b c).toArray⟩ : ByteArray) = N at HS ⊢
  go_wp2_with fail
  go_ret
  exact ⟨w1.heap.size, rfl, by rw [← HS.out]; exact row_fresh w1 [.string ⟨#[108,105,99]⟩, .string N] 9, behind_alloc HB1.out _⟩
set_option maxHeartbeats 2000000 in
set_option maxRecDepth 100000 in
theorem cmdWords_1 (j : Jb) (n a b c : Int) (w : World) (ht : Tab w) (hk : KwT w) : Calls Tryz.prog 31 #[.agg #[.int .i64 1, .int .i64 j.id, .int .i64 j.pr, .int .i64 j.nd, .int .i64 j.na, .int .i64 j.nb, .int .i64 j.nc, .int .i64 j.la, .int .i64 j.lb, .int .i64 j.lc, .int .i64 j.wl, .int .i64 j.lv, .int .i64 n, .int .i64 a, .int .i64 b, .int .i64 c]] w fun e w' => ∃ g cap, e = .returned (.slice (some ⟨g, 0, none⟩) 8 cap) ∧ 8 ≤ cap ∧ Row w' g (strs (cwL 1 j n a b c)) ∧ Below w.heap.size w w' := by
  have HT : Hid (Tab w) := ht
  have HK : Hid (KwT w) := hk
  have hc := hk.cell 1 (.string ⟨#[115,117,98,109,105,116]⟩) rfl
  have h0 := hk.2
  have hne : 1 ≠ w.heap.size := by omega
  clear ht hk
  go_enter Tryz.func31, Tryz.ntmps31
  go_wp2_with fail
  clear hc h0 hne
  have HR : Hid (Row (w.alloc (.cells #[.int .i64 1, .int .i64 j.id, .int .i64 j.pr, .int .i64 j.nd, .int .i64 j.na, .int .i64 j.nb, .int .i64 j.nc, .int .i64 j.la, .int .i64 j.lb, .int .i64 j.lc, .int .i64 j.wl, .int .i64 j.lv, .int .i64 n, .int .i64 a, .int .i64 b, .int .i64 c] 28)) w.heap.size [.int .i64 1, .int .i64 j.id, .int .i64 j.pr, .int .i64 j.nd, .int .i64 j.na, .int .i64 j.nb, .int .i64 j.nc, .int .i64 j.la, .int .i64 j.lb, .int .i64 j.lc, .int .i64 j.wl, .int .i64 j.lv, .int .i64 n, .int .i64 a, .int .i64 b, .int .i64 c]) := row_fresh w [.int .i64 1, .int .i64 j.id, .int .i64 j.pr, .int .i64 j.nd, .int .i64 j.na, .int .i64 j.nb, .int .i64 j.nc, .int .i64 j.la, .int .i64 j.lb, .int .i64 j.lc, .int .i64 j.wl, .int .i64 j.lv, .int .i64 n, .int .i64 a, .int .i64 b, .int .i64 c] 28
  have HB : Hid (Below w.heap.size w (w.alloc (.cells #[.int .i64 1, .int .i64 j.id, .int .i64 j.pr, .int .i64 j.nd, .int .i64 j.na, .int .i64 j.nb, .int .i64 j.nc, .int .i64 j.la, .int .i64 j.lb, .int .i64 j.lc, .int .i64 j.wl, .int .i64 j.lv, .int .i64 n, .int .i64 a, .int .i64 b, .int .i64 c] 28))) := low_alloc _ _
  have hs0 : (w.alloc (.cells #[.int .i64 1, .int .i64 j.id, .int .i64 j.pr, .int .i64 j.nd, .int .i64 j.na, .int .i64 j.nb, .int .i64 j.nc, .int .i64 j.la, .int .i64 j.lb, .int .i64 j.lc, .int .i64 j.wl, .int .i64 j.lv, .int .i64 n, .int .i64 a, .int .i64 b, .int .i64 c] 28)).heap.size = w.heap.size + 1 := by simp [go_sem]
  generalize w.alloc (.cells #[.int .i64 1, .int .i64 j.id, .int .i64 j.pr, .int .i64 j.nd, .int .i64 j.na, .int .i64 j.nb, .int .i64 j.nc, .int .i64 j.la, .int .i64 j.lb, .int .i64 j.lc, .int .i64 j.wl, .int .i64 j.lv, .int .i64 n, .int .i64 a, .int .i64 b, .int .i64 c] 28) = w0 at HR HB hs0 ⊢
  have HL := row_fresh w0 [.string ⟨#[115,117,98,109,105,116]⟩] 9
  rw [hs0] at HL
  have HL0 : Hid (Row (w0.alloc (.cells #[.string ⟨#[115,117,98,109,105,116]⟩] 9)) (w.heap.size + 1) (strs [kwL 1])) := HL
  have HB0 : Hid (Below w.heap.size w (w0.alloc (.cells #[.string ⟨#[115,117,98,109,105,116]⟩] 9))) := behind_alloc HB.out _
  clear HL HR HB hs0
  generalize w0.alloc (.cells #[.string ⟨#[115,117,98,109,105,116]⟩] 9) = w1 at HL0 HB0 ⊢
  refine (jobWords_c j _ (HT.out.on HB0.out)).mono ?_
  rintro e w2 ⟨g7, rfl, hr, hb⟩
  have HL2 : Hid (Row w2 (w.heap.size + 1) (strs [kwL 1])) := HL0.out.below hb
  have HJ2 : Hid (Row w2 g7 (strs (jwL j))) := hr
  have HB2 : Hid (Below w.heap.size w w2) := below_then HB0.out hb
  clear hr hb HL0 HB0
  go_wp2_with fail
  have HX := row_fresh w2 [.slice (some ⟨w.heap.size + 1, 0, none⟩) 1 1, .slice (some ⟨g7, 0, none⟩) 7 7] 47
  have HL3 := HL2.out.below (low_alloc w2 (.cells #[.slice (some ⟨w.heap.size + 1, 0, none⟩) 1 1, .slice (some ⟨g7, 0, none⟩) 7 7] 47))
  have HJ3 := HJ2.out.below (low_alloc w2 (.cells #[.slice (some ⟨w.heap.size + 1, 0, none⟩) 1 1, .slice (some ⟨g7, 0, none⟩) 7 7] 47))
  have HB3 : Hid (Below w.heap.size w (w2.alloc (.cells #[.slice (some ⟨w.heap.size + 1, 0, none⟩) 1 1, .slice (some ⟨g7, 0, none⟩) 7 7] 47))) := behind_alloc HB2.out _
  refine (concat_s _ w2.heap.size (w.heap.size + 1) g7 1 7 [kwL 1] (jwL j) HX HL3 HJ3 (by simp) (by simp [jwL]) (by simp [jwL])).mono ?_
  rintro e w4 ⟨g, cap, rfl, hcap, hr, hb⟩
  have HR4 : Hid (Row w4 g (strs (cwL 1 j n a b c))) := hr
  have HB4 : Hid (Below w.heap.size w w4) := below_then HB3.out hb
  clear hr hb HX HL3 HJ3 HB3 HL2 HJ2 HB2
  go_wp2_with fail
  go_ret
  exact ⟨g, cap, rfl, hcap, HR4.out, HB4.out⟩
end Go.Proofs.YtejleghdgdbbnaaGreatDoor

namespace Go.Proofs.YtejleghdgdbbnaaGreatDoor
open Go.ChangeShapes Go.WideShapes Go.ChangeAt Go.RowKit

theorem join_c (g cap : Nat) (ws : List (List UInt8)) (w : World) (h : Row w g (strs ws)) (hn : ws.length ≤ 1000) (hcap : ws.length ≤ cap) (hlen : (Lib.join ws [32]).length ≤ 50000) :
    Calls Tryz.prog 30 #[.slice (some ⟨g, 0, none⟩) ws.length cap, .string ⟨#[32]⟩] w fun e w' => e = .returned (.string ⟨(Lib.join ws [32]).toArray⟩) ∧ Below w.heap.size w w' := by
  have hm : (ws.map (fun p => (⟨p.toArray⟩ : ByteArray))).map (fun (x : ByteArray) => x.data.toList) = ws := by
    rw [List.map_map]; conv => rhs; rw [← List.map_id ws]
    exact List.map_congr_left (fun p _ => by simp)
  have hj := Tryz.strings_Join g 0 cap (ws.map (fun p => (⟨p.toArray⟩ : ByteArray))) ⟨#[32]⟩ w (fun j x hx => by
    rw [Nat.zero_add]
    refine h.cell j _ ?_
    rw [strs_get]
    rw [List.getElem?_map] at hx
    cases hw : ws[j]? with
    | none => rw [hw] at hx; cases hx
    | some p => rw [hw] at hx; simp at hx; simp [hx]) h.lt (by simp; omega) (by simp; omega) (by rw [hm]; have : (⟨#[32]⟩ : ByteArray).data.toList = [32] := rfl; rw [this]; omega)
  rw [hm] at hj
  simpa using hj

theorem kwL_len (s : Int) : (kwL s).length ≤ 6 := by
  unfold kwL
  generalize s.toNat = k
  match k with
  | 0 => decide
  | 1 => decide
  | 2 => decide
  | 3 => decide
  | 4 => decide
  | 5 => decide
  | 6 => decide
  | 7 => decide
  | k + 8 => simp [kws]
theorem cw_len (s : Int) (j : Jb) (n a b c : Int) : (Lib.join (cwL s j n a b c) [32]).length ≤ 500 := by
  have h0 := kwL_len s
  have h1 := numL_len n
  have h2 := vt_len a b c
  have h3 := numL_len j.id
  have h4 := numL_len j.pr
  have h5 := numL_len j.nd
  have h6 := vt_len j.na j.nb j.nc
  have h7 := vt_len j.la j.lb j.lc
  have h8 := numL_len j.wl
  have h9 := numL_len j.lv
  unfold cwL
  split
  · simp [jwL, Lib.join]; omega
  · split
    · simp [Lib.join]; omega
    · simp [Lib.join]; omega

theorem cmdB_seven {s : Int} {j : Jb} {n a b c : Int} (h : cmdB s j n a b c = true) : s = 1 ∨ s = 2 ∨ s = 3 ∨ s = 4 ∨ s = 5 ∨ s = 6 ∨ s = 7 := by
  rcases Decidable.em (s < 1 ∨ 7 < s) with hh | hh
  · rw [cmdB_no s j n a b c hh] at h; cases h
  · omega
theorem cw_few (s : Int) (j : Jb) (n a b c : Int) : (cwL s j n a b c).length ≤ 1000 := by
  unfold cwL
  split
  · simp [jwL]
  · split <;> simp
set_option maxHeartbeats 1000000 in
set_option maxRecDepth 100000 in
theorem cmdWords_c (s : Int) (j : Jb) (n a b c : Int) (w : World) (h : cmdB s j n a b c = true) (ht : Tab w) (hk : KwT w) : Calls Tryz.prog 31 #[.agg #[.int .i64 s, .int .i64 j.id, .int .i64 j.pr, .int .i64 j.nd, .int .i64 j.na, .int .i64 j.nb, .int .i64 j.nc, .int .i64 j.la, .int .i64 j.lb, .int .i64 j.lc, .int .i64 j.wl, .int .i64 j.lv, .int .i64 n, .int .i64 a, .int .i64 b, .int .i64 c]] w fun e w' => ∃ g cap, e = .returned (.slice (some ⟨g, 0, none⟩) (cwL s j n a b c).length cap) ∧ (cwL s j n a b c).length ≤ cap ∧ Row w' g (strs (cwL s j n a b c)) ∧ Below w.heap.size w w' := by
  have h7 := cmdB_seven h
  rcases h7 with rfl | rfl | rfl | rfl | rfl | rfl | rfl
  · exact cmdWords_1 j n a b c w ht hk
  · exact (cmdWords_2 j n a b c w ht hk).mono fun e w' ⟨g, e1, e2, e3⟩ => ⟨g, 2, e1, Nat.le_refl _, e2, e3⟩
  · exact (cmdWords_3 j n a b c w ht hk).mono fun e w' ⟨g, e1, e2, e3⟩ => ⟨g, 2, e1, Nat.le_refl _, e2, e3⟩
  · exact (cmdWords_4 j n a b c w ht hk).mono fun e w' ⟨g, e1, e2, e3⟩ => ⟨g, 2, e1, Nat.le_refl _, e2, e3⟩
  · exact (cmdWords_5 j n a b c w ht hk).mono fun e w' ⟨g, e1, e2, e3⟩ => ⟨g, 2, e1, Nat.le_refl _, e2, e3⟩
  · exact (cmdWords_6 j n a b c w ht hk).mono fun e w' ⟨g, e1, e2, e3⟩ => ⟨g, 2, e1, Nat.le_refl _, e2, e3⟩
  · exact (cmdWords_7 j n a b c w ht hk).mono fun e w' ⟨g, e1, e2, e3⟩ => ⟨g, 2, e1, Nat.le_refl _, e2, e3⟩

set_option maxHeartbeats 2000000 in
set_option maxRecDepth 100000 in
theorem implCmdText_c (s : Int) (j : Jb) (n a b c : Int) (w : World) (ht : Tab w) (hk : KwT w) : Calls Tryz.prog 14 #[.agg #[.int .i64 s, .int .i64 j.id, .int .i64 j.pr, .int .i64 j.nd, .int .i64 j.na, .int .i64 j.nb, .int .i64 j.nc, .int .i64 j.la, .int .i64 j.lb, .int .i64 j.lc, .int .i64 j.wl, .int .i64 j.lv, .int .i64 n, .int .i64 a, .int .i64 b, .int .i64 c]] w fun e w' => e = .returned (.string ⟨(ctL s j n a b c).toArray⟩) ∧ Below w.heap.size w w' := by
  have HT : Hid (Tab w) := ht
  have HK : Hid (KwT w) := hk
  clear ht hk
  have hcd := implCmdOk_c s j n a b c
  cases h : cmdB s j n a b c
  · have HE : Hid (ctL s j n a b c = []) := by show _ = _; rw [ctL, h]; rfl
    rw [h] at hcd
    have HC : Hid (∀ w : World, Calls Tryz.prog 28 #[.agg #[.int .i64 s, .int .i64 j.id, .int .i64 j.pr, .int .i64 j.nd, .int .i64 j.na, .int .i64 j.nb, .int .i64 j.nc, .int .i64 j.la, .int .i64 j.lb, .int .i64 j.lc, .int .i64 j.wl, .int .i64 j.lv, .int .i64 n, .int .i64 a, .int .i64 b, .int .i64 c]] w fun e w' => e = .returned (.bool false) ∧ Below w.heap.size w w') := hcd
    clear hcd h
    go_enter Tryz.func14, Tryz.ntmps14
    go_wp2_with (refine stay_load 28 ?_)
    refine ⟨?_⟩
    have HR : Hid (Row (w.alloc (.cells #[.int .i64 s, .int .i64 j.id, .int .i64 j.pr, .int .i64 j.nd, .int .i64 j.na, .int .i64 j.nb, .int .i64 j.nc, .int .i64 j.la, .int .i64 j.lb, .int .i64 j.lc, .int .i64 j.wl, .int .i64 j.lv, .int .i64 n, .int .i64 a, .int .i64 b, .int .i64 c] 28)) w.heap.size [.int .i64 s, .int .i64 j.id, .int .i64 j.pr, .int .i64 j.nd, .int .i64 j.na, .int .i64 j.nb, .int .i64 j.nc, .int .i64 j.la, .int .i64 j.lb, .int .i64 j.lc, .int .i64 j.wl, .int .i64 j.lv, .int .i64 n, .int .i64 a, .int .i64 b, .int .i64 c]) := row_fresh w [.int .i64 s, .int .i64 j.id, .int .i64 j.pr, .int .i64 j.nd, .int .i64 j.na, .int .i64 j.nb, .int .i64 j.nc, .int .i64 j.la, .int .i64 j.lb, .int .i64 j.lc, .int .i64 j.wl, .int .i64 j.lv, .int .i64 n, .int .i64 a, .int .i64 b, .int .i64 c] 28
    have HB : Hid (Below w.heap.size w (w.alloc (.cells #[.int .i64 s, .int .i64 j.id, .int .i64 j.pr, .int .i64 j.nd, .int .i64 j.na, .int .i64 j.nb, .int .i64 j.nc, .int .i64 j.la, .int .i64 j.lb, .int .i64 j.lc, .int .i64 j.wl, .int .i64 j.lv, .int .i64 n, .int .i64 a, .int .i64 b, .int .i64 c] 28))) := low_alloc _ _
    generalize w.alloc (.cells #[.int .i64 s, .int .i64 j.id, .int .i64 j.pr, .int .i64 j.nd, .int .i64 j.na, .int .i64 j.nb, .int .i64 j.nc, .int .i64 j.la, .int .i64 j.lb, .int .i64 j.lc, .int .i64 j.wl, .int .i64 j.lv, .int .i64 n, .int .i64 a, .int .i64 b, .int .i64 c] 28) = w0 at HR HB ⊢
    refine wpList_load_mid rfl 28 _ rfl w.heap.size 0 rfl [.int .i64 s, .int .i64 j.id, .int .i64 j.pr, .int .i64 j.nd, .int .i64 j.na, .int .i64 j.nb, .int .i64 j.nc, .int .i64 j.la, .int .i64 j.lb, .int .i64 j.lc, .int .i64 j.wl, .int .i64 j.lv, .int .i64 n, .int .i64 a, .int .i64 b, .int .i64 c] _ HR.out.all Tryz.underlying28 rfl szCmdS ?_
    go_wp2_with fail
    refine (HC.out _).mono ?_
    rintro e w1 ⟨rfl, hb⟩
    have HB1 : Hid (Below w.heap.size w w1) := below_then HB.out hb
    clear hb HR HB
    go_wp2_with fail
    go_ret
    exact ⟨by rw [HE.out]; rfl, HB1.out⟩
  · have HE : Hid (ctL s j n a b c = Lib.join (cwL s j n a b c) [32]) := by show _ = _; rw [ctL, h]; rfl
    have HW : Hid (∀ w : World, Tab w → KwT w → Calls Tryz.prog 31 #[.agg #[.int .i64 s, .int .i64 j.id, .int .i64 j.pr, .int .i64 j.nd, .int .i64 j.na, .int .i64 j.nb, .int .i64 j.nc, .int .i64 j.la, .int .i64 j.lb, .int .i64 j.lc, .int .i64 j.wl, .int .i64 j.lv, .int .i64 n, .int .i64 a, .int .i64 b, .int .i64 c]] w fun e w' => ∃ g cap, e = .returned (.slice (some ⟨g, 0, none⟩) (cwL s j n a b c).length cap) ∧ (cwL s j n a b c).length ≤ cap ∧ Row w' g (strs (cwL s j n a b c)) ∧ Below w.heap.size w w') := fun w => cmdWords_c s j n a b c w h
    have HL := cw_len s j n a b c
    have HN := cw_few s j n a b c
    have HJ : Hid (∀ (g cap : Nat) (w : World), Row w g (strs (cwL s j n a b c)) → (cwL s j n a b c).length ≤ cap → Calls Tryz.prog 30 #[.slice (some ⟨g, 0, none⟩) (cwL s j n a b c).length cap, .string ⟨#[32]⟩] w fun e w' => e = .returned (.string ⟨(Lib.join (cwL s j n a b c) [32]).toArray⟩) ∧ Below w.heap.size w w') := fun g cap w hr hc => join_c g cap _ w hr HN hc (by omega)
    rw [h] at hcd
    have HC : Hid (∀ w : World, Calls Tryz.prog 28 #[.agg #[.int .i64 s, .int .i64 j.id, .int .i64 j.pr, .int .i64 j.nd, .int .i64 j.na, .int .i64 j.nb, .int .i64 j.nc, .int .i64 j.la, .int .i64 j.lb, .int .i64 j.lc, .int .i64 j.wl, .int .i64 j.lv, .int .i64 n, .int .i64 a, .int .i64 b, .int .i64 c]] w fun e w' => e = .returned (.bool true) ∧ Below w.heap.size w w') := hcd
    clear hcd h HL HN
    generalize Lib.join (cwL s j n a b c) [32] = tx at HE HJ
    generalize cwL s j n a b c = ws at HW HJ
    generalize hT : (⟨(ctL s j n a b c).toArray⟩ : ByteArray) = T
    have HE2 : Hid ((⟨tx.toArray⟩ : ByteArray) = T) := by show _ = _; rw [← hT, HE.out]
    rw [HE2.out] at HJ
    clear hT HE HE2
    go_enter Tryz.func14, Tryz.ntmps14
    go_wp2_with (refine stay_load 28 ?_)
    refine ⟨?_⟩
    have HR : Hid (Row (w.alloc (.cells #[.int .i64 s, .int .i64 j.id, .int .i64 j.pr, .int .i64 j.nd, .int .i64 j.na, .int .i64 j.nb, .int .i64 j.nc, .int .i64 j.la, .int .i64 j.lb, .int .i64 j.lc, .int .i64 j.wl, .int .i64 j.lv, .int .i64 n, .int .i64 a, .int .i64 b, .int .i64 c] 28)) w.heap.size [.int .i64 s, .int .i64 j.id, .int .i64 j.pr, .int .i64 j.nd, .int .i64 j.na, .int .i64 j.nb, .int .i64 j.nc, .int .i64 j.la, .int .i64 j.lb, .int .i64 j.lc, .int .i64 j.wl, .int .i64 j.lv, .int .i64 n, .int .i64 a, .int .i64 b, .int .i64 c]) := row_fresh w [.int .i64 s, .int .i64 j.id, .int .i64 j.pr, .int .i64 j.nd, .int .i64 j.na, .int .i64 j.nb, .int .i64 j.nc, .int .i64 j.la, .int .i64 j.lb, .int .i64 j.lc, .int .i64 j.wl, .int .i64 j.lv, .int .i64 n, .int .i64 a, .int .i64 b, .int .i64 c] 28
    have HB : Hid (Below w.heap.size w (w.alloc (.cells #[.int .i64 s, .int .i64 j.id, .int .i64 j.pr, .int .i64 j.nd, .int .i64 j.na, .int .i64 j.nb, .int .i64 j.nc, .int .i64 j.la, .int .i64 j.lb, .int .i64 j.lc, .int .i64 j.wl, .int .i64 j.lv, .int .i64 n, .int .i64 a, .int .i64 b, .int .i64 c] 28))) := low_alloc _ _
    generalize w.alloc (.cells #[.int .i64 s, .int .i64 j.id, .int .i64 j.pr, .int .i64 j.nd, .int .i64 j.na, .int .i64 j.nb, .int .i64 j.nc, .int .i64 j.la, .int .i64 j.lb, .int .i64 j.lc, .int .i64 j.wl, .int .i64 j.lv, .int .i64 n, .int .i64 a, .int .i64 b, .int .i64 c] 28) = w0 at HR HB ⊢
    refine wpList_load_mid rfl 28 _ rfl w.heap.size 0 rfl [.int .i64 s, .int .i64 j.id, .int .i64 j.pr, .int .i64 j.nd, .int .i64 j.na, .int .i64 j.nb, .int .i64 j.nc, .int .i64 j.la, .int .i64 j.lb, .int .i64 j.lc, .int .i64 j.wl, .int .i64 j.lv, .int .i64 n, .int .i64 a, .int .i64 b, .int .i64 c] _ HR.out.all Tryz.underlying28 rfl szCmdS ?_
    go_wp2_with fail
    refine (HC.out _).mono ?_
    rintro e w1 ⟨rfl, hb⟩
    have HR1 : Hid (Row w1 w.heap.size [.int .i64 s, .int .i64 j.id, .int .i64 j.pr, .int .i64 j.nd, .int .i64 j.na, .int .i64 j.nb, .int .i64 j.nc, .int .i64 j.la, .int .i64 j.lb, .int .i64 j.lc, .int .i64 j.wl, .int .i64 j.lv, .int .i64 n, .int .i64 a, .int .i64 b, .int .i64 c]) := HR.out.below hb
    have HB1 : Hid (Below w.heap.size w w1) := below_then HB.out hb
    clear hb HR HB HC
    go_wp2_with (refine stay_load 28 ?_)
    refine ⟨?_⟩
    refine wpList_load_mid rfl 28 _ rfl w.heap.size 0 rfl [.int .i64 s, .int .i64 j.id, .int .i64 j.pr, .int .i64 j.nd, .int .i64 j.na, .int .i64 j.nb, .int .i64 j.nc, .int .i64 j.la, .int .i64 j.lb, .int .i64 j.lc, .int .i64 j.wl, .int .i64 j.lv, .int .i64 n, .int .i64 a, .int .i64 b, .int .i64 c] _ HR1.out.all Tryz.underlying28 rfl szCmdS ?_
    go_wp2_with fail
    refine (HW.out _ (HT.out.on HB1.out) (HK.out.on HB1.out)).mono ?_
    rintro e w2 ⟨g, cap, rfl, hcap, hr, hb⟩
    have HB2 : Hid (Below w.heap.size w w2) := below_then HB1.out hb
    have HR2 : Hid (Row w2 g (strs ws)) := hr
    have HCap : Hid (ws.length ≤ cap) := hcap
    clear hb hr hcap HR1 HB1
    go_wp2_with fail
    refine (HJ.out g cap _ HR2.out HCap.out).mono ?_
    rintro e w3 ⟨rfl, hb⟩
    have HB3 : Hid (Below w.heap.size w w3) := below_then HB2.out hb
    clear hb HB2 HR2
    go_wp2_with fail
    go_ret
    exact ⟨rfl, HB3.out⟩

set_option maxHeartbeats 2000000 in
set_option maxRecDepth 100000 in
theorem specCmdText_c (s : Int) (j : Jb) (n a b c : Int) (w : World) : Calls Tryz.prog 16 #[.agg #[.int .i64 s, .int .i64 j.id, .int .i64 j.pr, .int .i64 j.nd, .int .i64 j.na, .int .i64 j.nb, .int .i64 j.nc, .int .i64 j.la, .int .i64 j.lb, .int .i64 j.lc, .int .i64 j.wl, .int .i64 j.lv, .int .i64 n, .int .i64 a, .int .i64 b, .int .i64 c]] w fun e w' => e = .returned (.string ⟨(ctL s j n a b c).toArray⟩) ∧ Below w.heap.size w w' := by
  cases h : cmdB s j n a b c
  · have HE : Hid (ctL s j n a b c = []) := by show _ = _; rw [ctL, h]; rfl
    have hcd := specCmdOk_c s j n a b c
    rw [h] at hcd
    have HC : Hid (∀ w : World, Calls Tryz.prog 33 #[.agg #[.int .i64 s, .int .i64 j.id, .int .i64 j.pr, .int .i64 j.nd, .int .i64 j.na, .int .i64 j.nb, .int .i64 j.nc, .int .i64 j.la, .int .i64 j.lb, .int .i64 j.lc, .int .i64 j.wl, .int .i64 j.lv, .int .i64 n, .int .i64 a, .int .i64 b, .int .i64 c]] w fun e w' => e = .returned (.bool false) ∧ Below w.heap.size w w') := hcd
    clear hcd h
    go_enter Tryz.func16, Tryz.ntmps16
    go_wp2_with (refine stay_load 28 ?_)
    refine ⟨?_⟩
    have HR : Hid (Row (w.alloc (.cells #[.int .i64 s, .int .i64 j.id, .int .i64 j.pr, .int .i64 j.nd, .int .i64 j.na, .int .i64 j.nb, .int .i64 j.nc, .int .i64 j.la, .int .i64 j.lb, .int .i64 j.lc, .int .i64 j.wl, .int .i64 j.lv, .int .i64 n, .int .i64 a, .int .i64 b, .int .i64 c] 28)) w.heap.size [.int .i64 s, .int .i64 j.id, .int .i64 j.pr, .int .i64 j.nd, .int .i64 j.na, .int .i64 j.nb, .int .i64 j.nc, .int .i64 j.la, .int .i64 j.lb, .int .i64 j.lc, .int .i64 j.wl, .int .i64 j.lv, .int .i64 n, .int .i64 a, .int .i64 b, .int .i64 c]) := row_fresh w [.int .i64 s, .int .i64 j.id, .int .i64 j.pr, .int .i64 j.nd, .int .i64 j.na, .int .i64 j.nb, .int .i64 j.nc, .int .i64 j.la, .int .i64 j.lb, .int .i64 j.lc, .int .i64 j.wl, .int .i64 j.lv, .int .i64 n, .int .i64 a, .int .i64 b, .int .i64 c] 28
    have HB : Hid (Below w.heap.size w (w.alloc (.cells #[.int .i64 s, .int .i64 j.id, .int .i64 j.pr, .int .i64 j.nd, .int .i64 j.na, .int .i64 j.nb, .int .i64 j.nc, .int .i64 j.la, .int .i64 j.lb, .int .i64 j.lc, .int .i64 j.wl, .int .i64 j.lv, .int .i64 n, .int .i64 a, .int .i64 b, .int .i64 c] 28))) := low_alloc _ _
    generalize w.alloc (.cells #[.int .i64 s, .int .i64 j.id, .int .i64 j.pr, .int .i64 j.nd, .int .i64 j.na, .int .i64 j.nb, .int .i64 j.nc, .int .i64 j.la, .int .i64 j.lb, .int .i64 j.lc, .int .i64 j.wl, .int .i64 j.lv, .int .i64 n, .int .i64 a, .int .i64 b, .int .i64 c] 28) = w0 at HR HB ⊢
    refine wpList_load_mid rfl 28 _ rfl w.heap.size 0 rfl [.int .i64 s, .int .i64 j.id, .int .i64 j.pr, .int .i64 j.nd, .int .i64 j.na, .int .i64 j.nb, .int .i64 j.nc, .int .i64 j.la, .int .i64 j.lb, .int .i64 j.lc, .int .i64 j.wl, .int .i64 j.lv, .int .i64 n, .int .i64 a, .int .i64 b, .int .i64 c] _ HR.out.all Tryz.underlying28 rfl szCmdS ?_
    go_wp2_with fail
    refine (HC.out _).mono ?_
    rintro e w1 ⟨rfl, hb⟩
    have HB1 : Hid (Below w.heap.size w w1) := below_then HB.out hb
    clear hb HR HB
    go_wp2_with fail
    go_ret
    exact ⟨by rw [HE.out]; rfl, HB1.out⟩
  · rw [show ctL s j n a b c = Lib.join (cwL s j n a b c) [32] by rw [ctL, h]; rfl]
    have h7 := cmdB_seven h
    rcases h7 with rfl | rfl | rfl | rfl | rfl | rfl | rfl
    · exact specCmdText_1 j n a b c w h
    · exact specCmdText_2 j n a b c w h
    · exact specCmdText_3 j n a b c w h
    · exact specCmdText_4 j n a b c w h
    · exact specCmdText_5 j n a b c w h
    · exact specCmdText_6 j n a b c w h
    · exact specCmdText_7 j n a b c w h
end Go.Proofs.YtejleghdgdbbnaaGreatDoor
