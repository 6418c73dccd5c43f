/- The words of a command: the program's. -/
import Derived.Test.YtejleghdgdbbnaaDoorCmW
namespace Go.Proofs.YtejleghdgdbbnaaDoor
open Go.ChangeShapes Go.WideShapes Go.ChangeAt Go.RowKit

/-- The program's own words of the kinds lie as its text lays them. -/
def KwT (w : World) : Prop := w.var? Tryd.prog "loop.example/g00454/impl.kindWords" = some kwV.toArray ∧ 1 < w.heap.size
theorem gKw : Tryd.prog.globalNamed "loop.example/g00454/impl.kindWords" = some 1 := by kernel_rfl
theorem KwT.on {w w' : World} (h : KwT w) (hb : Below w.heap.size w w') : KwT w' :=
  ⟨var?_below hb gKw h.2 h.1, Nat.lt_of_lt_of_le h.2 hb.size⟩
theorem KwT.cell {w : World} (h : KwT w) (k : Nat) (x : Value) (hx : kwV[k]? = some x) : w.cell? ⟨1, k, none⟩ = some x := by
  have := World.var?_cell gKw h.1 k
  rw [this]; simpa using hx

set_option maxHeartbeats 2000000 in
set_option maxRecDepth 100000 in
theorem cmdWords_2 (j : Jb) (n a b c : Int) (w : World) (ht : Tab w) (hk : KwT w) : Calls Tryd.prog 26 #[.agg #[.int .i64 2, .int .i64 j.id, .int .i64 j.pr, .int .i64 j.nd, .int .i64 j.na, .int .i64 j.nb, .int .i64 j.nc, .int .i64 j.la, .int .i64 j.lb, .int .i64 j.lc, .int .i64 j.wl, .int .i64 j.lv, .int .i64 n, .int .i64 a, .int .i64 b, .int .i64 c]] w fun e w' => ∃ g, e = .returned (.slice (some ⟨g, 0, none⟩) 2 2) ∧ Row w' g (strs (cwL 2 j n a b c)) ∧ Below w.heap.size w w' := by
  have HT : Hid (Tab w) := ht
  have HK : Hid (KwT w) := hk
  have hc := hk.cell 2 (.string ⟨#[99,97,110,99,101,108]⟩) rfl
  have h0 := hk.2
  have hne : 1 ≠ w.heap.size := by omega
  clear ht hk
  go_enter Tryd.func26, Tryd.ntmps26
  go_wp2_with fail
  clear hc h0 hne
  have HR : Hid (Row (w.alloc (.cells #[.int .i64 2, .int .i64 j.id, .int .i64 j.pr, .int .i64 j.nd, .int .i64 j.na, .int .i64 j.nb, .int .i64 j.nc, .int .i64 j.la, .int .i64 j.lb, .int .i64 j.lc, .int .i64 j.wl, .int .i64 j.lv, .int .i64 n, .int .i64 a, .int .i64 b, .int .i64 c] 28)) w.heap.size [.int .i64 2, .int .i64 j.id, .int .i64 j.pr, .int .i64 j.nd, .int .i64 j.na, .int .i64 j.nb, .int .i64 j.nc, .int .i64 j.la, .int .i64 j.lb, .int .i64 j.lc, .int .i64 j.wl, .int .i64 j.lv, .int .i64 n, .int .i64 a, .int .i64 b, .int .i64 c]) := row_fresh w [.int .i64 2, .int .i64 j.id, .int .i64 j.pr, .int .i64 j.nd, .int .i64 j.na, .int .i64 j.nb, .int .i64 j.nc, .int .i64 j.la, .int .i64 j.lb, .int .i64 j.lc, .int .i64 j.wl, .int .i64 j.lv, .int .i64 n, .int .i64 a, .int .i64 b, .int .i64 c] 28
  have HB : Hid (Below w.heap.size w (w.alloc (.cells #[.int .i64 2, .int .i64 j.id, .int .i64 j.pr, .int .i64 j.nd, .int .i64 j.na, .int .i64 j.nb, .int .i64 j.nc, .int .i64 j.la, .int .i64 j.lb, .int .i64 j.lc, .int .i64 j.wl, .int .i64 j.lv, .int .i64 n, .int .i64 a, .int .i64 b, .int .i64 c] 28))) := low_alloc _ _
  generalize w.alloc (.cells #[.int .i64 2, .int .i64 j.id, .int .i64 j.pr, .int .i64 j.nd, .int .i64 j.na, .int .i64 j.nb, .int .i64 j.nc, .int .i64 j.la, .int .i64 j.lb, .int .i64 j.lc, .int .i64 j.wl, .int .i64 j.lv, .int .i64 n, .int .i64 a, .int .i64 b, .int .i64 c] 28) = w0 at HR HB ⊢
  have HS : Hid ([Value.string ⟨#[99,97,110,99,101,108]⟩, .string ⟨(numL n).toArray⟩] = strs (cwL 2 j n a b c)) := by show _ = _; simp [cwL, strs, kwL, kws]
  refine (implNumText_c n _ (HT.out.on HB.out)).mono ?_
  rintro e w1 ⟨rfl, hb⟩
  have HB1 : Hid (Below w.heap.size w w1) := below_then HB.out hb
  clear hb HB HR
  generalize (⟨(numL n).toArray⟩ : ByteArray) = N at HS ⊢
  go_wp2_with fail
  go_ret
  exact ⟨w1.heap.size, rfl, by rw [← HS.out]; exact row_fresh w1 [.string ⟨#[99,97,110,99,101,108]⟩, .string N] 9, behind_alloc HB1.out _⟩
set_option maxHeartbeats 2000000 in
set_option maxRecDepth 100000 in
theorem cmdWords_3 (j : Jb) (n a b c : Int) (w : World) (ht : Tab w) (hk : KwT w) : Calls Tryd.prog 26 #[.agg #[.int .i64 3, .int .i64 j.id, .int .i64 j.pr, .int .i64 j.nd, .int .i64 j.na, .int .i64 j.nb, .int .i64 j.nc, .int .i64 j.la, .int .i64 j.lb, .int .i64 j.lc, .int .i64 j.wl, .int .i64 j.lv, .int .i64 n, .int .i64 a, .int .i64 b, .int .i64 c]] w fun e w' => ∃ g, e = .returned (.slice (some ⟨g, 0, none⟩) 2 2) ∧ Row w' g (strs (cwL 3 j n a b c)) ∧ Below w.heap.size w w' := by
  have HT : Hid (Tab w) := ht
  have HK : Hid (KwT w) := hk
  have hc := hk.cell 3 (.string ⟨#[100,111,110,101]⟩) rfl
  have h0 := hk.2
  have hne : 1 ≠ w.heap.size := by omega
  clear ht hk
  go_enter Tryd.func26, Tryd.ntmps26
  go_wp2_with fail
  clear hc h0 hne
  have HR : Hid (Row (w.alloc (.cells #[.int .i64 3, .int .i64 j.id, .int .i64 j.pr, .int .i64 j.nd, .int .i64 j.na, .int .i64 j.nb, .int .i64 j.nc, .int .i64 j.la, .int .i64 j.lb, .int .i64 j.lc, .int .i64 j.wl, .int .i64 j.lv, .int .i64 n, .int .i64 a, .int .i64 b, .int .i64 c] 28)) w.heap.size [.int .i64 3, .int .i64 j.id, .int .i64 j.pr, .int .i64 j.nd, .int .i64 j.na, .int .i64 j.nb, .int .i64 j.nc, .int .i64 j.la, .int .i64 j.lb, .int .i64 j.lc, .int .i64 j.wl, .int .i64 j.lv, .int .i64 n, .int .i64 a, .int .i64 b, .int .i64 c]) := row_fresh w [.int .i64 3, .int .i64 j.id, .int .i64 j.pr, .int .i64 j.nd, .int .i64 j.na, .int .i64 j.nb, .int .i64 j.nc, .int .i64 j.la, .int .i64 j.lb, .int .i64 j.lc, .int .i64 j.wl, .int .i64 j.lv, .int .i64 n, .int .i64 a, .int .i64 b, .int .i64 c] 28
  have HB : Hid (Below w.heap.size w (w.alloc (.cells #[.int .i64 3, .int .i64 j.id, .int .i64 j.pr, .int .i64 j.nd, .int .i64 j.na, .int .i64 j.nb, .int .i64 j.nc, .int .i64 j.la, .int .i64 j.lb, .int .i64 j.lc, .int .i64 j.wl, .int .i64 j.lv, .int .i64 n, .int .i64 a, .int .i64 b, .int .i64 c] 28))) := low_alloc _ _
  generalize w.alloc (.cells #[.int .i64 3, .int .i64 j.id, .int .i64 j.pr, .int .i64 j.nd, .int .i64 j.na, .int .i64 j.nb, .int .i64 j.nc, .int .i64 j.la, .int .i64 j.lb, .int .i64 j.lc, .int .i64 j.wl, .int .i64 j.lv, .int .i64 n, .int .i64 a, .int .i64 b, .int .i64 c] 28) = w0 at HR HB ⊢
  have HS : Hid ([Value.string ⟨#[100,111,110,101]⟩, .string ⟨(numL n).toArray⟩] = strs (cwL 3 j n a b c)) := by show _ = _; simp [cwL, strs, kwL, kws]
  refine (implNumText_c n _ (HT.out.on HB.out)).mono ?_
  rintro e w1 ⟨rfl, hb⟩
  have HB1 : Hid (Below w.heap.size w w1) := below_then HB.out hb
  clear hb HB HR
  generalize (⟨(numL n).toArray⟩ : ByteArray) = N at HS ⊢
  go_wp2_with fail
  go_ret
  exact ⟨w1.heap.size, rfl, by rw [← HS.out]; exact row_fresh w1 [.string ⟨#[100,111,110,101]⟩, .string N] 9, behind_alloc HB1.out _⟩
set_option maxHeartbeats 2000000 in
set_option maxRecDepth 100000 in
theorem cmdWords_4 (j : Jb) (n a b c : Int) (w : World) (ht : Tab w) (hk : KwT w) : Calls Tryd.prog 26 #[.agg #[.int .i64 4, .int .i64 j.id, .int .i64 j.pr, .int .i64 j.nd, .int .i64 j.na, .int .i64 j.nb, .int .i64 j.nc, .int .i64 j.la, .int .i64 j.lb, .int .i64 j.lc, .int .i64 j.wl, .int .i64 j.lv, .int .i64 n, .int .i64 a, .int .i64 b, .int .i64 c]] w fun e w' => ∃ g, e = .returned (.slice (some ⟨g, 0, none⟩) 2 2) ∧ Row w' g (strs (cwL 4 j n a b c)) ∧ Below w.heap.size w w' := by
  have HT : Hid (Tab w) := ht
  have HK : Hid (KwT w) := hk
  have hc := hk.cell 4 (.string ⟨#[102,97,105,108]⟩) rfl
  have h0 := hk.2
  have hne : 1 ≠ w.heap.size := by omega
  clear ht hk
  go_enter Tryd.func26, Tryd.ntmps26
  go_wp2_with fail
  clear hc h0 hne
  have HR : Hid (Row (w.alloc (.cells #[.int .i64 4, .int .i64 j.id, .int .i64 j.pr, .int .i64 j.nd, .int .i64 j.na, .int .i64 j.nb, .int .i64 j.nc, .int .i64 j.la, .int .i64 j.lb, .int .i64 j.lc, .int .i64 j.wl, .int .i64 j.lv, .int .i64 n, .int .i64 a, .int .i64 b, .int .i64 c] 28)) w.heap.size [.int .i64 4, .int .i64 j.id, .int .i64 j.pr, .int .i64 j.nd, .int .i64 j.na, .int .i64 j.nb, .int .i64 j.nc, .int .i64 j.la, .int .i64 j.lb, .int .i64 j.lc, .int .i64 j.wl, .int .i64 j.lv, .int .i64 n, .int .i64 a, .int .i64 b, .int .i64 c]) := row_fresh w [.int .i64 4, .int .i64 j.id, .int .i64 j.pr, .int .i64 j.nd, .int .i64 j.na, .int .i64 j.nb, .int .i64 j.nc, .int .i64 j.la, .int .i64 j.lb, .int .i64 j.lc, .int .i64 j.wl, .int .i64 j.lv, .int .i64 n, .int .i64 a, .int .i64 b, .int .i64 c] 28
  have HB : Hid (Below w.heap.size w (w.alloc (.cells #[.int .i64 4, .int .i64 j.id, .int .i64 j.pr, .int .i64 j.nd, .int .i64 j.na, .int .i64 j.nb, .int .i64 j.nc, .int .i64 j.la, .int .i64 j.lb, .int .i64 j.lc, .int .i64 j.wl, .int .i64 j.lv, .int .i64 n, .int .i64 a, .int .i64 b, .int .i64 c] 28))) := low_alloc _ _
  generalize w.alloc (.cells #[.int .i64 4, .int .i64 j.id, .int .i64 j.pr, .int .i64 j.nd, .int .i64 j.na, .int .i64 j.nb, .int .i64 j.nc, .int .i64 j.la, .int .i64 j.lb, .int .i64 j.lc, .int .i64 j.wl, .int .i64 j.lv, .int .i64 n, .int .i64 a, .int .i64 b, .int .i64 c] 28) = w0 at HR HB ⊢
  have HS : Hid ([Value.string ⟨#[102,97,105,108]⟩, .string ⟨(numL n).toArray⟩] = strs (cwL 4 j n a b c)) := by show _ = _; simp [cwL, strs, kwL, kws]
  refine (implNumText_c n _ (HT.out.on HB.out)).mono ?_
  rintro e w1 ⟨rfl, hb⟩
  have HB1 : Hid (Below w.heap.size w w1) := below_then HB.out hb
  clear hb HB HR
  generalize (⟨(numL n).toArray⟩ : ByteArray) = N at HS ⊢
  go_wp2_with fail
  go_ret
  exact ⟨w1.heap.size, rfl, by rw [← HS.out]; exact row_fresh w1 [.string ⟨#[102,97,105,108]⟩, .string N] 9, behind_alloc HB1.out _⟩
set_option maxHeartbeats 2000000 in
set_option maxRecDepth 100000 in
theorem cmdWords_5 (j : Jb) (n a b c : Int) (w : World) (ht : Tab w) (hk : KwT w) : Calls Tryd.prog 26 #[.agg #[.int .i64 5, .int .i64 j.id, .int .i64 j.pr, .int .i64 j.nd, .int .i64 j.na, .int .i64 j.nb, .int .i64 j.nc, .int .i64 j.la, .int .i64 j.lb, .int .i64 j.lc, .int .i64 j.wl, .int .i64 j.lv, .int .i64 n, .int .i64 a, .int .i64 b, .int .i64 c]] w fun e w' => ∃ g, e = .returned (.slice (some ⟨g, 0, none⟩) 2 2) ∧ Row w' g (strs (cwL 5 j n a b c)) ∧ Below w.heap.size w w' := by
  have HT : Hid (Tab w) := ht
  have HK : Hid (KwT w) := hk
  have hc := hk.cell 5 (.string ⟨#[114,101,115,117,109,101]⟩) rfl
  have h0 := hk.2
  have hne : 1 ≠ w.heap.size := by omega
  clear ht hk
  go_enter Tryd.func26, Tryd.ntmps26
  go_wp2_with fail
  clear hc h0 hne
  have HR : Hid (Row (w.alloc (.cells #[.int .i64 5, .int .i64 j.id, .int .i64 j.pr, .int .i64 j.nd, .int .i64 j.na, .int .i64 j.nb, .int .i64 j.nc, .int .i64 j.la, .int .i64 j.lb, .int .i64 j.lc, .int .i64 j.wl, .int .i64 j.lv, .int .i64 n, .int .i64 a, .int .i64 b, .int .i64 c] 28)) w.heap.size [.int .i64 5, .int .i64 j.id, .int .i64 j.pr, .int .i64 j.nd, .int .i64 j.na, .int .i64 j.nb, .int .i64 j.nc, .int .i64 j.la, .int .i64 j.lb, .int .i64 j.lc, .int .i64 j.wl, .int .i64 j.lv, .int .i64 n, .int .i64 a, .int .i64 b, .int .i64 c]) := row_fresh w [.int .i64 5, .int .i64 j.id, .int .i64 j.pr, .int .i64 j.nd, .int .i64 j.na, .int .i64 j.nb, .int .i64 j.nc, .int .i64 j.la, .int .i64 j.lb, .int .i64 j.lc, .int .i64 j.wl, .int .i64 j.lv, .int .i64 n, .int .i64 a, .int .i64 b, .int .i64 c] 28
  have HB : Hid (Below w.heap.size w (w.alloc (.cells #[.int .i64 5, .int .i64 j.id, .int .i64 j.pr, .int .i64 j.nd, .int .i64 j.na, .int .i64 j.nb, .int .i64 j.nc, .int .i64 j.la, .int .i64 j.lb, .int .i64 j.lc, .int .i64 j.wl, .int .i64 j.lv, .int .i64 n, .int .i64 a, .int .i64 b, .int .i64 c] 28))) := low_alloc _ _
  generalize w.alloc (.cells #[.int .i64 5, .int .i64 j.id, .int .i64 j.pr, .int .i64 j.nd, .int .i64 j.na, .int .i64 j.nb, .int .i64 j.nc, .int .i64 j.la, .int .i64 j.lb, .int .i64 j.lc, .int .i64 j.wl, .int .i64 j.lv, .int .i64 n, .int .i64 a, .int .i64 b, .int .i64 c] 28) = w0 at HR HB ⊢
  have HS : Hid ([Value.string ⟨#[114,101,115,117,109,101]⟩, .string ⟨(numL n).toArray⟩] = strs (cwL 5 j n a b c)) := by show _ = _; simp [cwL, strs, kwL, kws]
  refine (implNumText_c n _ (HT.out.on HB.out)).mono ?_
  rintro e w1 ⟨rfl, hb⟩
  have HB1 : Hid (Below w.heap.size w w1) := below_then HB.out hb
  clear hb HB HR
  generalize (⟨(numL n).toArray⟩ : ByteArray) = N at HS ⊢
  go_wp2_with fail
  go_ret
  exact ⟨w1.heap.size, rfl, by rw [← HS.out]; exact row_fresh w1 [.string ⟨#[114,101,115,117,109,101]⟩, .string N] 9, behind_alloc HB1.out _⟩
set_option maxHeartbeats 2000000 in
set_option maxRecDepth 100000 in
theorem cmdWords_7 (j : Jb) (n a b c : Int) (w : World) (ht : Tab w) (hk : KwT w) : Calls Tryd.prog 26 #[.agg #[.int .i64 7, .int .i64 j.id, .int .i64 j.pr, .int .i64 j.nd, .int .i64 j.na, .int .i64 j.nb, .int .i64 j.nc, .int .i64 j.la, .int .i64 j.lb, .int .i64 j.lc, .int .i64 j.wl, .int .i64 j.lv, .int .i64 n, .int .i64 a, .int .i64 b, .int .i64 c]] w fun e w' => ∃ g, e = .returned (.slice (some ⟨g, 0, none⟩) 2 2) ∧ Row w' g (strs (cwL 7 j n a b c)) ∧ Below w.heap.size w w' := by
  have HT : Hid (Tab w) := ht
  have HK : Hid (KwT w) := hk
  have hc := hk.cell 7 (.string ⟨#[103,111]⟩) rfl
  have h0 := hk.2
  have hne : 1 ≠ w.heap.size := by omega
  clear ht hk
  go_enter Tryd.func26, Tryd.ntmps26
  go_wp2_with fail
  clear hc h0 hne
  have HR : Hid (Row (w.alloc (.cells #[.int .i64 7, .int .i64 j.id, .int .i64 j.pr, .int .i64 j.nd, .int .i64 j.na, .int .i64 j.nb, .int .i64 j.nc, .int .i64 j.la, .int .i64 j.lb, .int .i64 j.lc, .int .i64 j.wl, .int .i64 j.lv, .int .i64 n, .int .i64 a, .int .i64 b, .int .i64 c] 28)) w.heap.size [.int .i64 7, .int .i64 j.id, .int .i64 j.pr, .int .i64 j.nd, .int .i64 j.na, .int .i64 j.nb, .int .i64 j.nc, .int .i64 j.la, .int .i64 j.lb, .int .i64 j.lc, .int .i64 j.wl, .int .i64 j.lv, .int .i64 n, .int .i64 a, .int .i64 b, .int .i64 c]) := row_fresh w [.int .i64 7, .int .i64 j.id, .int .i64 j.pr, .int .i64 j.nd, .int .i64 j.na, .int .i64 j.nb, .int .i64 j.nc, .int .i64 j.la, .int .i64 j.lb, .int .i64 j.lc, .int .i64 j.wl, .int .i64 j.lv, .int .i64 n, .int .i64 a, .int .i64 b, .int .i64 c] 28
  have HB : Hid (Below w.heap.size w (w.alloc (.cells #[.int .i64 7, .int .i64 j.id, .int .i64 j.pr, .int .i64 j.nd, .int .i64 j.na, .int .i64 j.nb, .int .i64 j.nc, .int .i64 j.la, .int .i64 j.lb, .int .i64 j.lc, .int .i64 j.wl, .int .i64 j.lv, .int .i64 n, .int .i64 a, .int .i64 b, .int .i64 c] 28))) := low_alloc _ _
  generalize w.alloc (.cells #[.int .i64 7, .int .i64 j.id, .int .i64 j.pr, .int .i64 j.nd, .int .i64 j.na, .int .i64 j.nb, .int .i64 j.nc, .int .i64 j.la, .int .i64 j.lb, .int .i64 j.lc, .int .i64 j.wl, .int .i64 j.lv, .int .i64 n, .int .i64 a, .int .i64 b, .int .i64 c] 28) = w0 at HR HB ⊢
  have HS : Hid ([Value.string ⟨#[103,111]⟩, .string ⟨(numL n).toArray⟩] = strs (cwL 7 j n a b c)) := by show _ = _; simp [cwL, strs, kwL, kws]
  refine (implNumText_c n _ (HT.out.on HB.out)).mono ?_
  rintro e w1 ⟨rfl, hb⟩
  have HB1 : Hid (Below w.heap.size w w1) := below_then HB.out hb
  clear hb HB HR
  generalize (⟨(numL n).toArray⟩ : ByteArray) = N at HS ⊢
  go_wp2_with fail
  go_ret
  exact ⟨w1.heap.size, rfl, by rw [← HS.out]; exact row_fresh w1 [.string ⟨#[103,111]⟩, .string N] 9, behind_alloc HB1.out _⟩
set_option maxHeartbeats 2000000 in
set_option maxRecDepth 100000 in
theorem cmdWords_6 (j : Jb) (n a b c : Int) (w : World) (ht : Tab w) (hk : KwT w) : Calls Tryd.prog 26 #[.agg #[.int .i64 6, .int .i64 j.id, .int .i64 j.pr, .int .i64 j.nd, .int .i64 j.na, .int .i64 j.nb, .int .i64 j.nc, .int .i64 j.la, .int .i64 j.lb, .int .i64 j.lc, .int .i64 j.wl, .int .i64 j.lv, .int .i64 n, .int .i64 a, .int .i64 b, .int .i64 c]] w fun e w' => ∃ g, e = .returned (.slice (some ⟨g, 0, none⟩) 2 2) ∧ Row w' g (strs (cwL 6 j n a b c)) ∧ Below w.heap.size w w' := by
  have HT : Hid (Tab w) := ht
  have HK : Hid (KwT w) := hk
  have hc := hk.cell 6 (.string ⟨#[108,105,99]⟩) rfl
  have h0 := hk.2
  have hne : 1 ≠ w.heap.size := by omega
  clear ht hk
  go_enter Tryd.func26, Tryd.ntmps26
  go_wp2_with fail
  clear hc h0 hne
  have HR : Hid (Row (w.alloc (.cells #[.int .i64 6, .int .i64 j.id, .int .i64 j.pr, .int .i64 j.nd, .int .i64 j.na, .int .i64 j.nb, .int .i64 j.nc, .int .i64 j.la, .int .i64 j.lb, .int .i64 j.lc, .int .i64 j.wl, .int .i64 j.lv, .int .i64 n, .int .i64 a, .int .i64 b, .int .i64 c] 28)) w.heap.size [.int .i64 6, .int .i64 j.id, .int .i64 j.pr, .int .i64 j.nd, .int .i64 j.na, .int .i64 j.nb, .int .i64 j.nc, .int .i64 j.la, .int .i64 j.lb, .int .i64 j.lc, .int .i64 j.wl, .int .i64 j.lv, .int .i64 n, .int .i64 a, .int .i64 b, .int .i64 c]) := row_fresh w [.int .i64 6, .int .i64 j.id, .int .i64 j.pr, .int .i64 j.nd, .int .i64 j.na, .int .i64 j.nb, .int .i64 j.nc, .int .i64 j.la, .int .i64 j.lb, .int .i64 j.lc, .int .i64 j.wl, .int .i64 j.lv, .int .i64 n, .int .i64 a, .int .i64 b, .int .i64 c] 28
  have HB : Hid (Below w.heap.size w (w.alloc (.cells #[.int .i64 6, .int .i64 j.id, .int .i64 j.pr, .int .i64 j.nd, .int .i64 j.na, .int .i64 j.nb, .int .i64 j.nc, .int .i64 j.la, .int .i64 j.lb, .int .i64 j.lc, .int .i64 j.wl, .int .i64 j.lv, .int .i64 n, .int .i64 a, .int .i64 b, .int .i64 c] 28))) := low_alloc _ _
  generalize w.alloc (.cells #[.int .i64 6, .int .i64 j.id, .int .i64 j.pr, .int .i64 j.nd, .int .i64 j.na, .int .i64 j.nb, .int .i64 j.nc, .int .i64 j.la, .int .i64 j.lb, .int .i64 j.lc, .int .i64 j.wl, .int .i64 j.lv, .int .i64 n, .int .i64 a, .int .i64 b, .int .i64 c] 28) = w0 at HR HB ⊢
  have HS : Hid ([Value.string ⟨#[108,105,99]⟩, .string ⟨(vtL a b c).toArray⟩] = strs (cwL 6 j n a b c)) := by show _ = _; simp [cwL, strs, kwL, kws]
  refine (implVecText_all a b c _ (HT.out.on HB.out)).mono ?_
  rintro e w1 ⟨rfl, hb⟩
  have HB1 : Hid (Below w.heap.size w w1) := below_then HB.out hb
  clear hb HB HR
  generalize (⟨(vtL a b c).toArray⟩ : ByteArray) = N at HS ⊢
  go_wp2_with fail
  go_ret
  exact ⟨w1.heap.size, rfl, by rw [← HS.out]; exact row_fresh w1 [.string ⟨#[108,105,99]⟩, .string N] 9, behind_alloc HB1.out _⟩
set_option maxHeartbeats 2000000 in
set_option maxRecDepth 100000 in
theorem cmdWords_1 (j : Jb) (n a b c : Int) (w : World) (ht : Tab w) (hk : KwT w) : Calls Tryd.prog 26 #[.agg #[.int .i64 1, .int .i64 j.id, .int .i64 j.pr, .int .i64 j.nd, .int .i64 j.na, .int .i64 j.nb, .int .i64 j.nc, .int .i64 j.la, .int .i64 j.lb, .int .i64 j.lc, .int .i64 j.wl, .int .i64 j.lv, .int .i64 n, .int .i64 a, .int .i64 b, .int .i64 c]] w fun e w' => ∃ g cap, e = .returned (.slice (some ⟨g, 0, none⟩) 8 cap) ∧ 8 ≤ cap ∧ Row w' g (strs (cwL 1 j n a b c)) ∧ Below w.heap.size w w' := by
  have HT : Hid (Tab w) := ht
  have HK : Hid (KwT w) := hk
  have hc := hk.cell 1 (.string ⟨#[115,117,98,109,105,116]⟩) rfl
  have h0 := hk.2
  have hne : 1 ≠ w.heap.size := by omega
  clear ht hk
  go_enter Tryd.func26, Tryd.ntmps26
  go_wp2_with fail
  clear hc h0 hne
  have HR : Hid (Row (w.alloc (.cells #[.int .i64 1, .int .i64 j.id, .int .i64 j.pr, .int .i64 j.nd, .int .i64 j.na, .int .i64 j.nb, .int .i64 j.nc, .int .i64 j.la, .int .i64 j.lb, .int .i64 j.lc, .int .i64 j.wl, .int .i64 j.lv, .int .i64 n, .int .i64 a, .int .i64 b, .int .i64 c] 28)) w.heap.size [.int .i64 1, .int .i64 j.id, .int .i64 j.pr, .int .i64 j.nd, .int .i64 j.na, .int .i64 j.nb, .int .i64 j.nc, .int .i64 j.la, .int .i64 j.lb, .int .i64 j.lc, .int .i64 j.wl, .int .i64 j.lv, .int .i64 n, .int .i64 a, .int .i64 b, .int .i64 c]) := row_fresh w [.int .i64 1, .int .i64 j.id, .int .i64 j.pr, .int .i64 j.nd, .int .i64 j.na, .int .i64 j.nb, .int .i64 j.nc, .int .i64 j.la, .int .i64 j.lb, .int .i64 j.lc, .int .i64 j.wl, .int .i64 j.lv, .int .i64 n, .int .i64 a, .int .i64 b, .int .i64 c] 28
  have HB : Hid (Below w.heap.size w (w.alloc (.cells #[.int .i64 1, .int .i64 j.id, .int .i64 j.pr, .int .i64 j.nd, .int .i64 j.na, .int .i64 j.nb, .int .i64 j.nc, .int .i64 j.la, .int .i64 j.lb, .int .i64 j.lc, .int .i64 j.wl, .int .i64 j.lv, .int .i64 n, .int .i64 a, .int .i64 b, .int .i64 c] 28))) := low_alloc _ _
  have hs0 : (w.alloc (.cells #[.int .i64 1, .int .i64 j.id, .int .i64 j.pr, .int .i64 j.nd, .int .i64 j.na, .int .i64 j.nb, .int .i64 j.nc, .int .i64 j.la, .int .i64 j.lb, .int .i64 j.lc, .int .i64 j.wl, .int .i64 j.lv, .int .i64 n, .int .i64 a, .int .i64 b, .int .i64 c] 28)).heap.size = w.heap.size + 1 := by simp [go_sem]
  generalize w.alloc (.cells #[.int .i64 1, .int .i64 j.id, .int .i64 j.pr, .int .i64 j.nd, .int .i64 j.na, .int .i64 j.nb, .int .i64 j.nc, .int .i64 j.la, .int .i64 j.lb, .int .i64 j.lc, .int .i64 j.wl, .int .i64 j.lv, .int .i64 n, .int .i64 a, .int .i64 b, .int .i64 c] 28) = w0 at HR HB hs0 ⊢
  have HL := row_fresh w0 [.string ⟨#[115,117,98,109,105,116]⟩] 9
  rw [hs0] at HL
  have HL0 : Hid (Row (w0.alloc (.cells #[.string ⟨#[115,117,98,109,105,116]⟩] 9)) (w.heap.size + 1) (strs [kwL 1])) := HL
  have HB0 : Hid (Below w.heap.size w (w0.alloc (.cells #[.string ⟨#[115,117,98,109,105,116]⟩] 9))) := behind_alloc HB.out _
  clear HL HR HB hs0
  generalize w0.alloc (.cells #[.string ⟨#[115,117,98,109,105,116]⟩] 9) = w1 at HL0 HB0 ⊢
  refine (jobWords_c j _ (HT.out.on HB0.out)).mono ?_
  rintro e w2 ⟨g7, rfl, hr, hb⟩
  have HL2 : Hid (Row w2 (w.heap.size + 1) (strs [kwL 1])) := HL0.out.below hb
  have HJ2 : Hid (Row w2 g7 (strs (jwL j))) := hr
  have HB2 : Hid (Below w.heap.size w w2) := below_then HB0.out hb
  clear hr hb HL0 HB0
  go_wp2_with fail
  have HX := row_fresh w2 [.slice (some ⟨w.heap.size + 1, 0, none⟩) 1 1, .slice (some ⟨g7, 0, none⟩) 7 7] 41
  have HL3 := HL2.out.below (low_alloc w2 (.cells #[.slice (some ⟨w.heap.size + 1, 0, none⟩) 1 1, .slice (some ⟨g7, 0, none⟩) 7 7] 41))
  have HJ3 := HJ2.out.below (low_alloc w2 (.cells #[.slice (some ⟨w.heap.size + 1, 0, none⟩) 1 1, .slice (some ⟨g7, 0, none⟩) 7 7] 41))
  have HB3 : Hid (Below w.heap.size w (w2.alloc (.cells #[.slice (some ⟨w.heap.size + 1, 0, none⟩) 1 1, .slice (some ⟨g7, 0, none⟩) 7 7] 41))) := behind_alloc HB2.out _
  refine (concat_s _ w2.heap.size (w.heap.size + 1) g7 1 7 [kwL 1] (jwL j) HX HL3 HJ3 (by simp) (by simp [jwL]) (by simp [jwL])).mono ?_
  rintro e w4 ⟨g, cap, rfl, hcap, hr, hb⟩
  have HR4 : Hid (Row w4 g (strs (cwL 1 j n a b c))) := hr
  have HB4 : Hid (Below w.heap.size w w4) := below_then HB3.out hb
  clear hr hb HX HL3 HJ3 HB3 HL2 HJ2 HB2
  go_wp2_with fail
  go_ret
  exact ⟨g, cap, rfl, hcap, HR4.out, HB4.out⟩
end Go.Proofs.YtejleghdgdbbnaaDoor
