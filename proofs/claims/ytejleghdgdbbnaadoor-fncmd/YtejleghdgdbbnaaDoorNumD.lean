/- TextNum: the program's. -/
import Derived.Test.YtejleghdgdbbnaaDoorNumC
import Derived.Test.YtejleghdgdbbnaaDoorNumB
import Derived.Lib.AtoiErrMem
namespace Go.Proofs.YtejleghdgdbbnaaDoor
open Go.ChangeShapes Go.WideShapes Go.ChangeAt Go.RowKit

/-- strconv's two errors lie there, each some value of an interface's type. -/
def Errs (w : World) : Prop := (∃ tp p, w.var? Tryd.prog "strconv.ErrSyntax" = some #[.iface tp p]) ∧ (∃ tp p, w.var? Tryd.prog "strconv.ErrRange" = some #[.iface tp p]) ∧ 3 < w.heap.size ∧ 4 < w.heap.size

theorem gErrS : Tryd.prog.globalNamed "strconv.ErrSyntax" = some 3 := by kernel_rfl
theorem gErrR : Tryd.prog.globalNamed "strconv.ErrRange" = some 4 := by kernel_rfl

theorem Errs.on {w w' : World} (h : Errs w) (hb : Below w.heap.size w w') : Errs w' := by
  obtain ⟨⟨a, b, h1⟩, ⟨c, d, h2⟩, h3, h4⟩ := h
  exact ⟨⟨a, b, var?_below hb gErrS h3 h1⟩, ⟨c, d, var?_below hb gErrR h4 h2⟩, Nat.lt_of_lt_of_le h3 hb.size, Nat.lt_of_lt_of_le h4 hb.size⟩

theorem implTextNum_ok (s : ByteArray) (w : World) (hs : s.size ≤ 281474976710656) (ht : Tab w) (v : Int) (h : Lib.atoiAll s.data.toList = .ok v) :
    Calls Tryd.prog 67 #[.string s] w fun e w' => e = .returned (.tuple #[.int .i64 (tnR s.data.toList).1, .bool (tnR s.data.toList).2]) ∧ Below w.heap.size w w' := by
  have Ht : Hid (Tab w) := ht
  have Ha : Hid (Lib.atoiAll s.data.toList = .ok v) := h
  clear ht h
  by_cases hn : numL v = s.data.toList
  · have Hr : Hid (tnR s.data.toList = (v, true)) := by show tnR _ = _; rw [tn_ok Ha.out, if_pos hn]
    have Hs : Hid ((⟨(numL v).toArray⟩ : ByteArray) = s) := by show _ = _; rw [hn]
    clear hn
    go_enter Tryd.func67, Tryd.ntmps67
    go_wp2_with fail
    refine (Tryd.strconv_Atoi_ok s (by omega) v Ha.out _).mono ?_
    rintro e w1 ⟨rfl, hw⟩
    have hb1 : Below w.heap.size w w1 := by
      rcases hw with rfl | ⟨t, rfl⟩
      · exact Below.refl _ _
      · exact Lib.bytesWorld_below _ _ _
    clear hw
    go_wp2_with fail
    refine (implNumText_c _ _ (Ht.out.on hb1)).mono ?_
    rintro e w2 ⟨rfl, hb2⟩
    rw [Hs.out]
    go_wp2_with fail
    go_ret2
    exact ⟨by rw [Hr.out]; rfl, below_then hb1 hb2⟩
  · have Hr : Hid (tnR s.data.toList = (0, false)) := by show tnR _ = _; rw [tn_ok Ha.out, if_neg hn]
    have hne : (numL v == s.toList) = false := by rw [ByteArray.toList_eq]; simpa using hn
    clear hn
    go_enter Tryd.func67, Tryd.ntmps67
    go_wp2_with fail
    refine (Tryd.strconv_Atoi_ok s (by omega) v Ha.out _).mono ?_
    rintro e w1 ⟨rfl, hw⟩
    have hb1 : Below w.heap.size w w1 := by
      rcases hw with rfl | ⟨t, rfl⟩
      · exact Below.refl _ _
      · exact Lib.bytesWorld_below _ _ _
    clear hw
    go_wp2_with fail
    refine (implNumText_c _ _ (Ht.out.on hb1)).mono ?_
    rintro e w2 ⟨rfl, hb2⟩
    go_wp2_with fail
    go_ret2
    exact ⟨by rw [Hr.out]; rfl, below_then hb1 hb2⟩

theorem implTextNum_err (s : ByteArray) (w : World) (hr : tnR s.data.toList = (0, false))
    (hc : Calls Tryd.prog 90 #[.string s] w fun e w' => ∃ (n : Int) (t : TypeId) (p : Value), e = .returned (.tuple #[.int .i64 n, .iface t p]) ∧ Below w.heap.size w w') :
    Calls Tryd.prog 67 #[.string s] w fun e w' => e = .returned (.tuple #[.int .i64 (tnR s.data.toList).1, .bool (tnR s.data.toList).2]) ∧ Below w.heap.size w w' := by
  have Hr : Hid (tnR s.data.toList = (0, false)) := hr
  have Hc : Hid (Calls Tryd.prog 90 #[.string s] w fun e w' => ∃ (n : Int) (t : TypeId) (p : Value), e = .returned (.tuple #[.int .i64 n, .iface t p]) ∧ Below w.heap.size w w') := hc
  clear hr hc
  go_enter Tryd.func67, Tryd.ntmps67
  go_wp2_with fail
  refine Hc.out.mono ?_
  rintro e w1 ⟨n, t, p, rfl, hb1⟩
  go_wp2_with fail
  go_ret2
  exact ⟨by rw [Hr.out]; rfl, hb1⟩

/-- The program's TextNum, at every text that memory can hold. -/
theorem implTextNum_all (s : ByteArray) (w : World) (hs : s.size ≤ 281474976710656) (ht : Tab w) (he : Errs w) :
    Calls Tryd.prog 67 #[.string s] w fun e w' => e = .returned (.tuple #[.int .i64 (tnR s.data.toList).1, .bool (tnR s.data.toList).2]) ∧ Below w.heap.size w w' := by
  obtain ⟨⟨t1, p1, v1⟩, ⟨t2, p2, v2⟩, _, _⟩ := he
  cases h : Lib.atoiAll s.data.toList
  · exact implTextNum_ok s w hs ht _ h
  · refine implTextNum_err s w (tn_err (by rw [h]; intro v e; cases e)) ?_
    first
    | exact (Tryd.strconv_Atoi_syntax_var s hs h t1 p1 w v1).mono fun e w' ⟨N, he, _, _, hb⟩ => ⟨_, _, _, he, hb⟩
    | exact (Tryd.strconv_Atoi_range_var s hs h t2 p2 w v2).mono fun e w' ⟨N, he, _, _, hb⟩ => ⟨_, _, _, he, hb⟩
  · refine implTextNum_err s w (tn_err (by rw [h]; intro v e; cases e)) ?_
    first
    | exact (Tryd.strconv_Atoi_syntax_var s hs h t1 p1 w v1).mono fun e w' ⟨N, he, _, _, hb⟩ => ⟨_, _, _, he, hb⟩
    | exact (Tryd.strconv_Atoi_range_var s hs h t2 p2 w v2).mono fun e w' ⟨N, he, _, _, hb⟩ => ⟨_, _, _, he, hb⟩
end Go.Proofs.YtejleghdgdbbnaaDoor
