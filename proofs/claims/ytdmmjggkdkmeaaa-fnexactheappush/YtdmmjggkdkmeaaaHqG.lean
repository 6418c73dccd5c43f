/- Heaps pushed and popped: the program's HeapPush and HeapPop. -/
import Derived.Test.YtdmmjggkdkmeaaaHqF
import Derived.Test.YtdmmjggkdkmeaaaHpG
namespace Go.Proofs.Ytdmmjggkdkmeaaa
open Go.ChangeShapes Go.WideShapes Go.ChangeAt Go.RowKit

set_option maxHeartbeats 4000000 in
set_option maxRecDepth 100000 in
theorem implHeapPush_c (b : Option Addr) (d : Nat) (l : List Du) (hl : l.length ≤ 1048576) (x : Du) (w : World) (h : Sq w b (flatD l)) :
    Calls Try.prog 23 #[.slice b l.length d, .agg #[.int .i64 x.t, .int .i64 x.n]] w (RetH w (POkh l x) (dpush l x)) := by
  have H : Hid (Sq w b (flatD l)) := h
  clear h
  by_cases h200 : 200 ≤ l.length
  · have hi : (200 : Int) ≤ (l.length : Int) := by omega
    have HN : Hid (¬ POkh l x) := fun t => by have := t.1.1; have := t.2.2; omega
    clear h200
    go_enter Try.func23, Try.ntmps23
    go_wp2_with fail
    go_ret2
    exact RetH.no rfl HN.out (low_alloc _ _)
  · have hi : ¬ (200 : Int) ≤ (l.length : Int) := by omega
    have HL : Hid (l.length < 200) := by show _ < _; omega
    clear h200
    go_enter Try.func23, Try.ntmps23
    go_wp2_with fail
    have HX : Hid (Row (w.alloc (.cells #[.int .i64 x.t, .int .i64 x.n] 30)) w.heap.size [.int .i64 x.t, .int .i64 x.n]) := row_fresh w [.int .i64 x.t, .int .i64 x.n] 30
    have HB : Hid (Below w.heap.size w (w.alloc (.cells #[.int .i64 x.t, .int .i64 x.n] 30))) := low_alloc _ _
    generalize w.alloc (.cells #[.int .i64 x.t, .int .i64 x.n] 30) = w1 at HX HB ⊢
    refine (right_c x _).mono ?_
    rintro e w2 ⟨rfl, hb⟩
    have HX2 : Hid (Row w2 w.heap.size [.int .i64 x.t, .int .i64 x.n]) := HX.out.below hb
    have HB2 : Hid (Below w.heap.size w w2) := below_then HB.out hb
    clear hb HX HB
    cases hd : dueB x
    · have HN : Hid (¬ POkh l x) := fun t => by have := t.2.1; rw [hd] at this; cases this
      clear hd
      go_wp2_with fail
      go_ret2
      exact RetH.no rfl HN.out HB2.out
    · have HDu : Hid (dueB x = true) := hd
      clear hd
      go_wp2_with fail
      refine (implHeapOk_c b d l hl _ (H.out.below HB2.out)).mono ?_
      rintro e w3 ⟨k, rfl, hk, hb⟩
      have HX3 : Hid (Row w3 w.heap.size [.int .i64 x.t, .int .i64 x.n]) := HX2.out.below hb
      have HB3 : Hid (Below w.heap.size w w3) := below_then HB2.out hb
      have HK : Hid (k = true ↔ HOk l) := hk
      clear hb hk HX2 HB2
      cases k
      · have HN : Hid (¬ POkh l x) := fun t => by have := HK.out.2 t.1; cases this
        go_wp2_with fail
        go_ret2
        exact RetH.no rfl HN.out HB3.out
      · have HP : Hid (POkh l x) := ⟨HK.out.1 rfl, HDu.out, by have := HL.out; omega⟩
        clear HK HDu
        go_wp2_with fail
        refine (cloneD_c b d l hl _ (H.out.below HB3.out)).mono ?_
        rintro e w4 ⟨v, rfl, ho, hb⟩
        obtain ⟨a, c, rfl⟩ := owns_form2 ho
        have hw3 := HB3.out.size
        have HO4 : Hid (w4.ownsRow w.heap.size 30 2 (.slice a l.length c) l.length (flatD l)) := owns_mono2 ho hw3
        have HX4 : Hid (Row w4 w.heap.size [.int .i64 x.t, .int .i64 x.n]) := HX3.out.below hb
        have HB4 : Hid (Below w.heap.size w w4) := below_then HB3.out hb
        have hX4 := HX4.out.lt
        have HN4 : Hid ((Value.slice a l.length c).ownBlock ≠ some w4.heap.size) := fun e => by have := (ho.lt _ e).2; omega
        clear ho hb HX3 HB3 hw3
        have HR5 : Hid (Row (w4.alloc (.cells #[.slice a l.length c] 51)) w4.heap.size [.slice a l.length c]) := row_fresh w4 [.slice a l.length c] 51
        have HO5 : Hid ((w4.alloc (.cells #[.slice a l.length c] 51)).ownsRow w.heap.size 30 2 (.slice a l.length c) l.length (flatD l)) := HO4.out.alloc _
        have HX5 : Hid (Row (w4.alloc (.cells #[.slice a l.length c] 51)) w.heap.size [.int .i64 x.t, .int .i64 x.n]) := HX4.out.below (low_alloc _ _)
        have HB5 : Hid (Below w.heap.size w (w4.alloc (.cells #[.slice a l.length c] 51))) := behind_alloc HB4.out _
        have x0 := HX4.out.cell 0 _ rfl
        have x1 := HX4.out.cell 1 _ rfl
        have hX5 : w.heap.size ≠ w4.heap.size := Nat.ne_of_lt hX4
        go_wp2_with fail
        clear x0 x1 hX5
        generalize w4.alloc (.cells #[.slice a l.length c] 51) = w5 at HR5 HO5 HX5 HB5 ⊢
        have hq : w.heap.size ≤ w4.heap.size := by omega
        generalize w4.heap.size = q at HR5 HN4 hq ⊢
        have HQ : Hid (w.heap.size ≤ q) := hq
        clear HO4 HX4 HB4 hX4 hq
        refine (push_c w.heap.size q (.slice a l.length c) l (by have := HL.out; omega) x _ HR5.out HO5.out HN4.out HQ.out).mono ?_
        rintro e w6 ⟨rfl, v', hr, ho, _, hb⟩
        have HB6 : Hid (Below w.heap.size w w6) := HB5.out.trans hb
        have HO6 : Hid (w6.ownsRow w.heap.size 30 2 v' (l.length + 1) (flatD (dpush l x))) := ho
        obtain ⟨a2, c2, rfl⟩ := owns_form2 ho
        have HR6 : Hid (Row w6 q [.slice a2 (l.length + 1) c2]) := hr
        have HA : Hid (AnsD w.heap.size w6.heap.size w6 (dpush l x).length (flatD (dpush l x)) (.slice a2 (l.length + 1) c2)) := by
          show AnsD _ _ _ _ _ _
          rw [dpush_len]
          exact AnsD.of_owns ho
        clear hb ho hr HR5 HO5 HX5 HB5 HN4
        have r0 := HR6.out.cell 0 _ rfl
        go_wp2_with fail
        go_ret2
        exact RetH.yes rfl HP.out HA.out HB6.out
end Go.Proofs.Ytdmmjggkdkmeaaa
