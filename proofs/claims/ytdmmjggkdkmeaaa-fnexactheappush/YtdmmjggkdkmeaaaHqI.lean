/- Heaps made of lists: the program's HeapOf. -/
import Derived.Test.YtdmmjggkdkmeaaaHqH
namespace Go.Proofs.Ytdmmjggkdkmeaaa
open Go.ChangeShapes Go.WideShapes Go.ChangeAt Go.RowKit

theorem dof_big : ∀ (l acc : List Du), acc.length ≤ 200 → 200 < acc.length + l.length → dof acc l = none
  | [], acc, h, h2 => by simp at h2; omega
  | x :: r, acc, h, h2 => by
    unfold dof
    split
    · rename_i hc
      exact dof_big r (dpush acc x) (by rw [dpush_len]; omega) (by rw [dpush_len]; simp at h2; omega)
    · rfl
theorem RetO.no {w w' : World} {r : Option (List Du)} {e : Ending} (he : e = .returned (.tuple #[.slice none 0 0, .bool false])) (h : r = none) (hb : Below w.heap.size w w') : RetO w r e w' :=
  ⟨false, _, he, by rw [h]; rfl, by rw [h]; exact AnsD.none _ _ _ _ _, hb⟩
theorem RetO.yes {w w' : World} {r : Option (List Du)} {e : Ending} {v : Value} {xs : List Du} (he : e = .returned (.tuple #[v, .bool true])) (h : r = some xs) (ha : AnsD w.heap.size w'.heap.size w' xs.length (flatD xs) v) (hb : Below w.heap.size w w') : RetO w r e w' :=
  ⟨true, _, he, by rw [h]; rfl, by rw [h]; exact ha, hb⟩
set_option maxHeartbeats 4000000 in
set_option maxRecDepth 100000 in
theorem implHeapOf_c (b : Option Addr) (d : Nat) (l : List Du) (hl : l.length ≤ 1048576) (w : World) (h : Sq w b (flatD l)) :
    Calls Try.prog 11 #[.slice b l.length d] w (RetO w (dof [] l)) := by
  have H : Hid (Sq w b (flatD l)) := h
  clear h
  by_cases h200 : 200 < l.length
  · have hi : (200 : Int) < (l.length : Int) := by omega
    have HN : Hid (dof [] l = none) := dof_big l [] (by simp) (by simp; omega)
    clear h200
    go_enter Try.func11, Try.ntmps11
    go_wp2_with fail
    go_ret2
    exact RetO.no rfl HN.out (Below.refl _ _)
  · have hi : ¬ (200 : Int) < (l.length : Int) := by omega
    have HL : Hid (l.length ≤ 200) := by show _ ≤ _; omega
    clear h200
    go_enter Try.func11, Try.ntmps11
    go_wp2_with fail
    have HR0 : Hid (Row (w.alloc (.cells #[.slice none 0 0] 51)) w.heap.size [.slice none 0 0]) := row_fresh w [.slice none 0 0] 51
    have HB0 : Hid (Below w.heap.size w (w.alloc (.cells #[.slice none 0 0] 51))) := low_alloc _ _
    generalize w.alloc (.cells #[.slice none 0 0] 51) = w0 at HR0 HB0 ⊢
    go_loopw [12] (fun i wr => ∃ (k : Nat) (acc : List Du) (a : Option Addr) (c : Nat), k ≤ l.length ∧ i = .int .i64 k ∧ acc.length = k ∧ dof acc (l.drop k) = dof [] l ∧ Row wr w.heap.size [.slice a k c] ∧ wr.ownsRow w.heap.size 30 2 (.slice a k c) k (flatD acc) ∧ (Value.slice a k c).ownBlock ≠ some w.heap.size ∧ Below w.heap.size w wr) (fun i _ => l.length - (intOf i).toNat)
    case atStart => exact ⟨0, [], none, 0, Nat.zero_le _, rfl, rfl, by simp, HR0.out, World.ownsRow_nil _ _ _ _, by simp [Value.ownBlock], HB0.out⟩
    case round =>
      obtain ⟨k, acc, a, c, hk, rfl, hal, hdo, hr, ho, hne, hb⟩ := hrel
      have HAl : Hid (acc.length = k) := hal
      have HDo : Hid (dof acc (l.drop k) = dof [] l) := hdo
      have HR : Hid (Row wr w.heap.size [.slice a k c]) := hr
      have HO : Hid (wr.ownsRow w.heap.size 30 2 (.slice a k c) k (flatD acc)) := ho
      have HNe : Hid ((Value.slice a k c).ownBlock ≠ some w.heap.size) := hne
      have HB : Hid (Below w.heap.size w wr) := hb
      clear hal hdo hr ho hne hb
      by_cases hlt : k < l.length
      · have hj0 : (0 : Int) ≤ (k : Int) := by omega
        have hj1 : (k : Int) < (l.length : Int) := by omega
        have HX : Hid (l[k]? = some l[k]) := List.getElem?_eq_getElem hlt
        have HDr : Hid (l.drop k = l[k] :: l.drop (k + 1)) := List.drop_eq_getElem_cons hlt
        obtain ⟨p, rfl⟩ := H.out.some_ofD k hlt
        generalize l[k] = x at HX HDr
        have c0 := (H.out.below HB.out).due0 HX.out
        have c1 := (H.out.below HB.out).dueK HX.out 1 (by decide) _ rfl
        go_wp2_with fail
        have HX3 : Hid (Row (wr.alloc (.cells #[.int .i64 x.t, .int .i64 x.n] 30)) wr.heap.size [.int .i64 x.t, .int .i64 x.n]) := row_fresh wr [.int .i64 x.t, .int .i64 x.n] 30
        have HB3 : Hid (Below w.heap.size w (wr.alloc (.cells #[.int .i64 x.t, .int .i64 x.n] 30))) := behind_alloc HB.out _
        have HR3 : Hid (Row (wr.alloc (.cells #[.int .i64 x.t, .int .i64 x.n] 30)) w.heap.size [.slice a k c]) := HR.out.below (low_alloc _ _)
        have HO3 : Hid ((wr.alloc (.cells #[.int .i64 x.t, .int .i64 x.n] 30)).ownsRow w.heap.size 30 2 (.slice a k c) k (flatD acc)) := HO.out.alloc _
        clear c0 c1
        generalize wr.alloc (.cells #[.int .i64 x.t, .int .i64 x.n] 30) = U at HX3 HB3 HR3 HO3 ⊢
        generalize wr.heap.size = X at HX3 ⊢
        clear HR HO HB
        refine (right_c x _).mono ?_
        rintro e w2 ⟨rfl, hb⟩
        have HX4 : Hid (Row w2 X [.int .i64 x.t, .int .i64 x.n]) := HX3.out.below hb
        have HB4 : Hid (Below w.heap.size w w2) := below_then HB3.out hb
        have HR4 : Hid (Row w2 w.heap.size [.slice a k c]) := HR3.out.below hb
        have HO4 : Hid (w2.ownsRow w.heap.size 30 2 (.slice a k c) k (flatD acc)) := ownsD_below HO3.out hb
        clear hb HX3 HB3 HR3 HO3
        cases hd : dueB x
        · have HN : Hid (dof [] l = none) := by
            show _ = _
            rw [← HDo.out, HDr.out, dof, if_neg (fun t => by rw [hd] at t; cases t.1)]
          clear hd
          go_wp2_with fail
          go_ret2
          exact RetO.no rfl HN.out HB4.out
        · have HD2 : Hid (dof (dpush acc x) (l.drop (k + 1)) = dof [] l) := by
            show _ = _
            rw [← HDo.out, HDr.out, dof, if_pos ⟨hd, by rw [HAl.out]; have := HL.out; omega⟩]
          clear hd
          have x0 := HX4.out.cell 0 _ rfl
          have x1 := HX4.out.cell 1 _ rfl
          have hc := push_c w.heap.size w.heap.size (.slice a k c) acc (by rw [HAl.out]; have := HL.out; omega) x w2 HR4.out (by rw [HAl.out]; exact HO4.out) HNe.out (Nat.le_refl _)
          rw [HAl.out] at hc
          have HC : Hid (Calls Try.prog 35 #[.pointer (some ⟨w.heap.size, 0, none⟩), .agg #[.int .i64 x.t, .int .i64 x.n]] w2 fun e w' => e = .returned (.tuple #[]) ∧ ∃ v', Row w' w.heap.size [v'] ∧ w'.ownsRow w.heap.size 30 2 v' (k + 1) (flatD (dpush acc x)) ∧ v'.ownBlock ≠ some w.heap.size ∧ Below w.heap.size w2 w') := hc
          clear hc
          go_wp2_with fail
          refine HC.out.mono ?_
          rintro e w5 ⟨rfl, v', hr, ho, hne, hb⟩
          obtain ⟨a2, c2, rfl⟩ := owns_form2 ho
          have HR5 : Hid (Row w5 w.heap.size [.slice a2 (k + 1) c2]) := hr
          have HO5 : Hid (w5.ownsRow w.heap.size 30 2 (.slice a2 (k + 1) c2) (k + 1) (flatD (dpush acc x))) := ho
          have HN5 : Hid ((Value.slice a2 (k + 1) c2).ownBlock ≠ some w.heap.size) := hne
          have HB5 : Hid (Below w.heap.size w w5) := HB4.out.trans hb
          clear hr ho hne hb x0 x1 HC HX4 HB4 HR4 HO4
          go_wp2_with fail
          go_roundw
          case rel => exact ⟨k + 1, dpush acc x, a2, c2, by omega, by go_num, by rw [dpush_len, HAl.out], HD2.out, HR5.out, HO5.out, HN5.out, HB5.out⟩
          case measure => simp [intOf]; omega
      · have HE : Hid (dof [] l = some acc) := by
          show _ = _
          rw [← HDo.out, List.drop_of_length_le (by omega)]
          rfl
        have HA : Hid (AnsD w.heap.size wr.heap.size wr acc.length (flatD acc) (.slice a k c)) := by
          show AnsD _ _ _ _ _ _
          rw [HAl.out]
          exact AnsD.of_owns HO.out
        have r0 := HR.out.cell 0 _ rfl
        go_wp2_with fail
        go_ret2
        exact RetO.yes rfl HE.out HA.out HB.out
end Go.Proofs.Ytdmmjggkdkmeaaa
