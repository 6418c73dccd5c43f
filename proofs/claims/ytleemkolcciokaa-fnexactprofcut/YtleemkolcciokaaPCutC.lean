/- ProfCut: the specification. -/
import Derived.Test.YtleemkolcciokaaBxA
namespace Go.Proofs.Ytleemkolcciokaa
open Go.ChangeShapes Go.WideShapes Go.ChangeAt Go.RowKit

set_option maxHeartbeats 2000000 in
theorem specProfCut_c (b : Option Addr) (d : Nat) (ns : List Nd) (t : Int) (w : World) (h : Sq w b (flat ns)) :
    Calls Try.prog 42 #[.agg #[.slice b ns.length d], .int .i64 t] w (RetQ w (cutR ns t)) := by
  have H : Hid (Sq w b (flat ns)) := h
  clear h
  go_enter Try.func42, Try.ntmps42
  go_wp2_with fail
  generalize hV : ((w.alloc (.cells #[.slice b ns.length d] 25)).alloc (.cells #[.slice none 0 0] 25)) = V
  have HA : Hid (Row V w.heap.size [.slice b ns.length d]) := by subst hV; exact (row_fresh w [.slice b ns.length d] 25).below (low_alloc _ _)
  have HR : Hid (Row V (w.heap.size + 1) [.slice none 0 0]) := by
    subst hV
    have h := row_fresh (w.alloc (.cells #[.slice b ns.length d] 25)) [.slice none 0 0] 25
    rw [show (w.alloc (.cells #[.slice b ns.length d] 25)).heap.size = w.heap.size + 1 by simp [go_sem]] at h
    exact h
  have HV : Hid (Below w.heap.size w V) := by subst hV; exact behind_alloc (low_alloc _ _) _
  clear hV
  refine (specProfOk_c b d ns _ (H.out.below HV.out)).mono ?_
  rintro e w1 ⟨k, rfl, hk, hb⟩
  have HB1 : Hid (Below w.heap.size w w1) := below_then HV.out hb
  have HS1 : Hid (Sq w1 b (flat ns)) := (H.out.below HV.out).below hb
  have HR1 : Hid (Row w1 (w.heap.size + 1) [.slice none 0 0]) := HR.out.below hb
  have HA1 : Hid (Row w1 w.heap.size [.slice b ns.length d]) := HA.out.below hb
  have HK : Hid (k = true ↔ POk ns) := hk
  clear hb hk HA HR HV
  cases k
  · have HN : Hid (cutR ns t = []) := cut_no (fun t => by have := HK.out.2 t.1; cases this)
    clear HK
    have r0 := HR1.out.cell 0 _ rfl
    have f0 := HR1.out.free 0
    have B8 := HB1.out
    go_wp2_with fail
    refine bodyPost_ret (v := .agg #[.slice none 0 0]) (by simp [results, Try.results42, go_sem, *]) rfl ⟨_, rfl, ?_, by go_grown⟩
    rw [HN.out]
    exact AnsP.none _ _ _ _ _
  · have HY : Hid (POk ns) := HK.out.1 rfl
    have hfw := HY.out.few
    clear HK
    go_wp2_with fail
    refine (l01Time_c t _).mono ?_
    rintro e w2 ⟨rfl, rfl⟩
    cases ht : timeB t
    · have HN : Hid (cutR ns t = []) := cut_no (fun h => by rw [ht] at h; cases h.2)
      clear ht
      have r0 := HR1.out.cell 0 _ rfl
      have f0 := HR1.out.free 0
      have B8 := HB1.out
      go_wp2_with fail
      refine bodyPost_ret (v := .agg #[.slice none 0 0]) (by simp [results, Try.results42, go_sem, *]) rfl ⟨_, rfl, ?_, by go_grown⟩
      rw [HN.out]
      exact AnsP.none _ _ _ _ _
    · have HN : Hid (cutR ns t = at0 ns t :: lateTo ns t ns.length) := cut_yes HY.out ht
      have ht0 : 0 ≤ t := (time_iff.1 ht).1
      obtain ⟨i0, hi, hz0, hz1, hz2⟩ := info_parts infoPt
      clear ht
      have a0 := HA1.out.cell 0 _ rfl
      go_wp2_with fail
      refine (l03At_c b d ns t (by omega) _ HS1.out).mono ?_
      rintro e w3 ⟨rfl, hb⟩
      have HB3 : Hid (Below w.heap.size w w3) := below_then HB1.out hb
      have HR3 : Hid (Row w3 (w.heap.size + 1) [.slice none 0 0]) := HR1.out.below hb
      have a0 := (HA1.out.below hb).cell 0 _ rfl
      have hl3 := HR3.out.lt
      have hw3 : w.heap.size ≤ w3.heap.size := HB3.out.size
      have hl0 : w.heap.size < w3.heap.size := by omega
      have hne1 : w.heap.size ≠ w3.heap.size := by omega
      have hne2 : w.heap.size ≠ w3.heap.size + 1 := by omega
      have HO3 := owns_one w3 (at0 ns t)
      have HQ : Hid ((at0 ns t).l = 0 ∧ (at0 ns t).a = (atL ns t).a ∧ (at0 ns t).b = (atL ns t).b ∧ (at0 ns t).c = (atL ns t).c) := ⟨rfl, rfl, rfl, rfl⟩
      rw [HQ.out.1, HQ.out.2.1, HQ.out.2.2.1, HQ.out.2.2.2] at HO3
      clear hb HB1 HS1 HR1 HA1 HQ
      have HZ : Hid (at0 ns t :: lateTo ns t 0 = [at0 ns t]) := rfl
      generalize (atL ns t).a = x at HO3 ⊢
      generalize (atL ns t).b = y at HO3 ⊢
      generalize (atL ns t).c = z at HO3 ⊢
      have HO4 : Hid ((w3.alloc (.cells #[.int .i64 0, .int .i64 x, .int .i64 y, .int .i64 z] 47)).ownsRow w3.heap.size 47 4 (.slice (some ⟨w3.heap.size, 0, none⟩) 1 1) 1 (flat (at0 ns t :: lateTo ns t 0))) := by rw [HZ.out]; exact HO3
      clear HO3
      have HBx : Hid (Bx w ((w3.alloc (.cells #[.int .i64 0, .int .i64 x, .int .i64 y, .int .i64 z] 47)).alloc (.cells #[.slice (some ⟨w3.heap.size, 0, none⟩) 1 1] 25)) w3.heap.size (w3.heap.size + 1) (.slice (some ⟨w3.heap.size, 0, none⟩) 1 1) (at0 ns t :: lateTo ns t 0)) := by
        have hr := row_fresh (w3.alloc (.cells #[.int .i64 0, .int .i64 x, .int .i64 y, .int .i64 z] 47)) [.slice (some ⟨w3.heap.size, 0, none⟩) 1 1] 25
        rw [show (w3.alloc (.cells #[.int .i64 0, .int .i64 x, .int .i64 y, .int .i64 z] 47)).heap.size = w3.heap.size + 1 by simp [go_sem]] at hr
        exact ⟨hr, HO4.out.alloc _, by simp [Value.ownBlock], hw3, by omega, by simp [go_sem]; omega, behind_alloc (behind_alloc HB3.out _) _⟩
      have HR5 : Hid (Row ((w3.alloc (.cells #[.int .i64 0, .int .i64 x, .int .i64 y, .int .i64 z] 47)).alloc (.cells #[.slice (some ⟨w3.heap.size, 0, none⟩) 1 1] 25)) (w.heap.size + 1) [.slice none 0 0]) := (HR3.out.below (low_alloc _ _)).below (low_alloc _ _)
      go_wp2_with fail
      generalize (w3.alloc (.cells #[.int .i64 0, .int .i64 x, .int .i64 y, .int .i64 z] 47)).alloc (.cells #[.slice (some ⟨w3.heap.size, 0, none⟩) 1 1] 25) = w5 at HBx HR5
      clear HO4 HB3 HR3 a0 hl0 hne1 hne2 hw3 HZ
      generalize w3.heap.size = B at *
      go_loopw [26] (fun i wr => ∃ (j : Nat) (a1 : Option Addr) (c1 : Nat), j ≤ ns.length ∧ i = .int .i64 j ∧ Bx w wr B (B + 1) (.slice a1 ((lateTo ns t j).length + 1) c1) (at0 ns t :: lateTo ns t j) ∧ Row wr (w.heap.size + 1) [.slice none 0 0]) (fun i _ => ns.length - (intOf i).toNat)
      case atStart => exact ⟨0, _, _, Nat.zero_le _, rfl, HBx.out, HR5.out⟩
      case round =>
        obtain ⟨j, a1, c1, hj, rfl, hbx, hr⟩ := hrel
        have HX5 : Hid (Bx w wr B (B + 1) (.slice a1 ((lateTo ns t j).length + 1) c1) (at0 ns t :: lateTo ns t j)) := hbx
        have HR6 : Hid (Row wr (w.heap.size + 1) [.slice none 0 0]) := hr
        have hBl := hbx.box.lt
        have hll := late_len ns t j
        have hwr := hbx.le
        clear hbx hr HBx HR5
        by_cases hlt : j < ns.length
        · have hj0 : (0 : Int) ≤ (j : Int) := by omega
          have hj1 : (j : Int) < (ns.length : Int) := by omega
          obtain ⟨p2, rfl, c0, c1', c2, c3⟩ := (H.out.below HX5.out.grown).node j hlt
          have HX : Hid (ns[j]? = some ns[j]) := List.getElem?_eq_getElem hlt
          generalize ns[j] = n at c0 c1' c2 c3 HX
          have HK : Hid (lateTo ns t (j + 1) = if t < n.l then lateTo ns t j ++ [n] else lateTo ns t j) := late_next HX.out
          by_cases hc : t < n.l
          · rw [if_pos hc] at HK
            have b0 := HX5.out.box.cell 0 _ rfl
            have hneB : B + 1 ≠ wr.heap.size := by omega
            have HXa : Hid (Bx w ((wr.alloc (.cells #[.int .i64 n.l, .int .i64 n.a, .int .i64 n.b, .int .i64 n.c] 47)).alloc (.cells #[.int .i64 n.l, .int .i64 n.a, .int .i64 n.b, .int .i64 n.c] 47)) B (B + 1) (.slice a1 ((lateTo ns t j).length + 1) c1) (at0 ns t :: lateTo ns t j)) := (HX5.out.below (low_alloc _ _)).below (low_alloc _ _)
            have HRa : Hid (Row ((wr.alloc (.cells #[.int .i64 n.l, .int .i64 n.a, .int .i64 n.b, .int .i64 n.c] 47)).alloc (.cells #[.int .i64 n.l, .int .i64 n.a, .int .i64 n.b, .int .i64 n.c] 47)) (w.heap.size + 1) [.slice none 0 0]) := (HR6.out.below (low_alloc _ _)).below (low_alloc _ _)
            have HL1 : Hid ((at0 ns t :: lateTo ns t j).length = (lateTo ns t j).length + 1) := rfl
            generalize hls : lateTo ns t j = ls at *
            go_wp2_with (at_builtin; refine wpList_append_own_at _ rfl _ _ 23 rfl B 47 i0 (.agg #[.int .i64 0, .int .i64 0, .int .i64 0, .int .i64 0]) 4 32 Try.underlying23 hi hz0 hz1 hz2 rfl (by decide) _ _ _ rfl HXa.out.own ⟨wr.heap.size + 1, 0, none⟩ 1 1 [.int .i64 n.l, .int .i64 n.a, .int .i64 n.b, .int .i64 n.c] rfl rfl ?c1 ?c2 ?c3 ?c4 ?c5 ?_)
            case c1 =>
              intro k u hk
              match k, hk with
              | 0, hk => simp at hk; subst hk; simp [Addr.add]
              | 1, hk => simp at hk; subst hk; simp [Addr.add]
              | 2, hk => simp at hk; subst hk; simp [Addr.add]
              | 3, hk => simp at hk; subst hk; simp [Addr.add]
              | k + 4, hk => simp at hk
            case c2 =>
              intro u hu
              simp only [List.mem_cons, List.not_mem_nil, or_false] at hu
              rcases hu with rfl | rfl | rfl | rfl <;> rfl
            case c3 => unfold maxLen; simp; omega
            case c4 => simp; omega
            case c5 => simp; omega
            · intro v1 w6 hown1 hgrow1 _ hat
              obtain ⟨a2, c2', hv1, _⟩ := (AnsP.of_owns hown1).form
              subst hv1
              obtain ⟨hbox, hbx, hrows⟩ := HXa.out.add n hown1 hgrow1 (hat.imp id (fun e => by rw [e]; simp [go_sem]))
              have HXb : Hid (Bx w (w6.setCell ⟨B + 1, 0, none⟩ (.slice a2 (ls.length + 1 + 1) c2')) B (B + 1) (.slice a2 (ls.length + 1 + 1) c2') ((at0 ns t :: ls) ++ [n])) := hbx
              have HRb : Hid (Row (w6.setCell ⟨B + 1, 0, none⟩ (.slice a2 (ls.length + 1 + 1) c2')) (w.heap.size + 1) [.slice none 0 0]) := hrows _ _ HRa.out (by omega) (by omega)
              have d0 := hbox.cell 0 _ rfl
              have df := hbox.free 0
              clear hown1 hgrow1 hat hbox hbx hrows b0
              have HLn : Hid ((lateTo ns t (j + 1)).length = ls.length + 1) := by show _ = _; rw [HK.out]; simp
              go_wp2_with fail
              refine ⟨⟨j + 1, a2, c2', by omega, by go_num, ?_, HRb.out⟩, by simp [intOf]; omega⟩
              rw [HLn.out, HK.out]
              exact HXb.out
          · rw [if_neg hc] at HK
            have HXa : Hid (Bx w (wr.alloc (.cells #[.int .i64 n.l, .int .i64 n.a, .int .i64 n.b, .int .i64 n.c] 47)) B (B + 1) (.slice a1 ((lateTo ns t j).length + 1) c1) (at0 ns t :: lateTo ns t j)) := HX5.out.below (low_alloc _ _)
            have HRa : Hid (Row (wr.alloc (.cells #[.int .i64 n.l, .int .i64 n.a, .int .i64 n.b, .int .i64 n.c] 47)) (w.heap.size + 1) [.slice none 0 0]) := HR6.out.below (low_alloc _ _)
            go_wp2_with fail
            exact ⟨⟨j + 1, a1, c1, by omega, by go_num, by rw [HK.out]; exact HXa.out, HRa.out⟩, by simp [intOf]; omega⟩
        · obtain rfl : j = ns.length := by omega
          have b0 := HX5.out.box.cell 0 _ rfl
          have r0 := HR6.out.cell 0 _ rfl
          have f0 := HR6.out.free 0
          have hneR : w.heap.size + 1 ≠ B + 1 := by omega
          have HAns := (AnsP.of_owns HX5.out.own).keep (w' := wr.setCell ⟨w.heap.size + 1, 0, none⟩ (.slice a1 ((lateTo ns t ns.length).length + 1) c1)) (fun g h1 _ hr => hr.apart (w.heap.size + 1) 0 _ (by omega))
          have HAns2 : Hid (AnsP B wr.heap.size (wr.setCell ⟨w.heap.size + 1, 0, none⟩ (.slice a1 ((lateTo ns t ns.length).length + 1) c1)) (at0 ns t :: lateTo ns t ns.length).length (flat (at0 ns t :: lateTo ns t ns.length)) (.slice a1 ((lateTo ns t ns.length).length + 1) c1)) := HAns
          have HBf : Hid (Below w.heap.size w (wr.setCell ⟨w.heap.size + 1, 0, none⟩ (.slice a1 ((lateTo ns t ns.length).length + 1) c1))) := HX5.out.grown.setCell (p := ⟨w.heap.size + 1, 0, none⟩) (by show w.heap.size ≤ w.heap.size + 1; omega) _
          clear HAns
          go_wp2_with fail
          refine bodyPost_ret (v := .agg #[.slice a1 ((lateTo ns t ns.length).length + 1) c1]) (by simp [results, Try.results42, go_sem, *]) rfl ⟨_, rfl, ?_, HBf.out⟩
          rw [HN.out]
          exact HAns2.out.wide (by omega) (by rw [World.size_setCell]; exact Nat.le_refl _)
end Go.Proofs.Ytleemkolcciokaa
