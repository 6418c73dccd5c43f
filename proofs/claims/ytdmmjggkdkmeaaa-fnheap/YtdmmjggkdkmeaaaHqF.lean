/- A heap that gives its first: the program's pop. -/
import Derived.Test.YtdmmjggkdkmeaaaHqE
import Derived.Test.YtdmmjggkdkmeaaaResA
namespace Go.Proofs.Ytdmmjggkdkmeaaa
open Go.ChangeShapes Go.WideShapes Go.ChangeAt Go.RowKit

theorem owns_cut {w : World} {B m g cap : Nat} {e : TypeId} {xs : List Value} (h : w.ownsRow B e 2 (.slice (some ⟨g, 0, none⟩) (m + 1) cap) (m + 1) xs) : w.ownsRow B e 2 (.slice (some ⟨g, 0, none⟩) m cap) m (xs.take (2 * m)) := by
  obtain ⟨hlen, h⟩ := h
  refine ⟨by rw [List.length_take]; omega, .inr ?_⟩
  rcases h with ⟨h, _⟩ | ⟨g2, cap2, cur, e, hB, hg, hnc, hm, hsz, hx⟩
  · cases h
  · cases e
    refine ⟨g, cap, cur, rfl, hB, hg, by omega, hm, hsz, ?_⟩
    rw [← hx, List.take_take]
    congr 1
    omega
theorem flatD_dropLast (l : List Du) : (flatD l).take (2 * (l.length - 1)) = flatD l.dropLast := by
  have h := flatD_drop l
  have hl : (flatD l.dropLast).length = 2 * (l.length - 1) := by rw [flatD_len, List.length_dropLast]
  rw [h, List.take_append_of_le_length (by omega), ← hl, List.take_length]
theorem set_dropLast (l : List Du) (x : Du) : (l.set 0 x).dropLast = l.dropLast.set 0 x := by
  rw [List.dropLast_eq_take, List.dropLast_eq_take, List.length_set, List.take_set]
set_option maxHeartbeats 4000000 in
set_option maxRecDepth 100000 in
theorem pop_c (B hb g C : Nat) (l : List Du) (hl : l.length ≤ 1000) (hn : l ≠ []) (w : World) (hX : Row w hb [.slice (some ⟨g, 0, none⟩) l.length C]) (hO : w.ownsRow B 30 2 (.slice (some ⟨g, 0, none⟩) l.length C) l.length (flatD l)) (hne : g ≠ hb) :
    Calls Try.prog 37 #[.pointer (some ⟨hb, 0, none⟩)] w fun e w' => e = .returned (.agg #[.int .i64 (dg l 0).t, .int .i64 (dg l 0).n]) ∧ Row w' hb [.slice (some ⟨g, 0, none⟩) (l.length - 1) C] ∧
      w'.ownsRow B 30 2 (.slice (some ⟨g, 0, none⟩) (l.length - 1) C) (l.length - 1) (flatD (dpop l)) ∧ Duo w w' hb g := by
  obtain ⟨m, hm⟩ : ∃ m : Nat, l.length = m + 1 := by
    cases l with
    | nil => exact absurd rfl hn
    | cons a r => exact ⟨r.length, rfl⟩
  have HM : Hid (l.length = m + 1) := hm
  have hlt : hb < w.heap.size := hX.lt
  have hgl : g < w.heap.size := (hO.lt g rfl).2
  have hml : m < l.length := by omega
  have h0l : 0 < l.length := by omega
  have HL0 : Hid (l[0]? = some (dg l 0)) := by show _ = _; rw [List.getElem?_eq_getElem h0l, dg_eq h0l]
  have HLm : Hid (l[m]? = some (dg l m)) := by show _ = _; rw [List.getElem?_eq_getElem hml, dg_eq hml]
  have HDP : Hid (dpop l = ddn (l.dropLast.set 0 (dg l m)) 0) := by show _ = _; unfold dpop; rw [HM.out]; rfl
  have HYl : Hid ((l.dropLast.set 0 (dg l m)).length = m) := by show _ = _; rw [List.length_set, List.length_dropLast, hm]; omega
  rw [hm] at hX hO ⊢
  rw [Nat.add_sub_cancel]
  have hcap : m + 1 ≤ C := (owns_row hO).2.2
  have e0 : Hid (∀ r u, (dg l 0).cells[r]? = some u → r < 2 → (flatD l)[0 * 2 + r]? = some u) := fun r u hu hr => by
    rw [flatD_get l 0 r h0l hr, ← dg_eq h0l]; exact hu
  have em : Hid (∀ r u, (dg l m).cells[r]? = some u → r < 2 → (flatD l)[m * 2 + r]? = some u) := fun r u hu hr => by
    rw [flatD_get l m r hml hr, ← dg_eq hml]; exact hu
  generalize dg l 0 = f at HL0 e0 ⊢
  generalize dg l m = x at HLm HDP HYl em
  have hm1000 : m ≤ 999 := by omega
  have hm0 : (0 : Int) ≤ (m : Int) := by omega
  have hmc : (m : Int) ≤ (C : Int) := by omega
  have e1 : (m : Int) + 1 - 1 = (m : Int) := by omega
  have em1 : (m : Int) < (m : Int) + 1 := by omega
  have HX : Hid (Row w hb [.slice (some ⟨g, 0, none⟩) (m + 1) C]) := hX
  have HO : Hid (w.ownsRow B 30 2 (.slice (some ⟨g, 0, none⟩) (m + 1) C) (m + 1) (flatD l)) := hO
  have HLe : Hid (0 < l.length ∧ (flatD l).length = 2 * (m + 1)) := ⟨h0l, by rw [flatD_len, hm]⟩
  clear hX hO hl hn hm h0l hml
  have h0 := HX.out.cell 0 _ rfl
  have c0 := (owns_row HO.out).1.cell 0 _ (e0.out 0 _ rfl (by decide))
  have c1 := (owns_row HO.out).1.cell 1 _ (e0.out 1 _ rfl (by decide))
  go_enter Try.func37, Try.ntmps37
  go_wp2_with (refine stay_store 30 ?_)
  refine ⟨?_⟩
  have hs1 : (w.alloc (.cells #[.int .i64 0, .int .i64 0] 30)).heap.size = w.heap.size + 1 := by simp [go_sem]
  have hs2 : ((w.alloc (.cells #[.int .i64 0, .int .i64 0] 30)).alloc (.cells #[.int .i64 0, .int .i64 0] 30)).heap.size = w.heap.size + 2 := by simp [go_sem]
  have HB2 : Hid (Below w.heap.size w ((w.alloc (.cells #[.int .i64 0, .int .i64 0] 30)).alloc (.cells #[.int .i64 0, .int .i64 0] 30))) := behind_alloc (low_alloc _ _) _
  have HR2 : Hid (Row ((w.alloc (.cells #[.int .i64 0, .int .i64 0] 30)).alloc (.cells #[.int .i64 0, .int .i64 0] 30)) w.heap.size [.int .i64 0, .int .i64 0]) := (row_fresh w [.int .i64 0, .int .i64 0] 30).below (low_alloc _ _)
  have HF2 : Hid (Row ((w.alloc (.cells #[.int .i64 0, .int .i64 0] 30)).alloc (.cells #[.int .i64 0, .int .i64 0] 30)) (w.heap.size + 1) [.int .i64 0, .int .i64 0]) := by
    have h := row_fresh (w.alloc (.cells #[.int .i64 0, .int .i64 0] 30)) [.int .i64 0, .int .i64 0] 30
    rwa [hs1] at h
  generalize ((w.alloc (.cells #[.int .i64 0, .int .i64 0] 30)).alloc (.cells #[.int .i64 0, .int .i64 0] 30)) = w2 at hs2 HB2 HR2 HF2 ⊢
  have HH2 : Hid (Row w2 hb [.slice (some ⟨g, 0, none⟩) (m + 1) C]) := HX.out.below HB2.out
  have HO2 : Hid (w2.ownsRow B 30 2 (.slice (some ⟨g, 0, none⟩) (m + 1) C) (m + 1) (flatD l)) := ownsD_below HO.out HB2.out
  have HD2 : Hid (Duo w w2 hb g) := (Duo.refl w hb g).then HB2.out
  clear c0 c1 h0 hs1
  refine wpList_store_mid rfl 30 _ _ rfl (w.heap.size + 1) 0 _ rfl rfl (HF2.out.room 0 2 (by simp)) szDue (by simp [Value.oneCell']) ?_
  show wpList _ _ _ _ _ (w2.setCells (w.heap.size + 1) 0 [.int .i64 f.t, .int .i64 f.n])
  have HF3 : Hid (Row (w2.setCells (w.heap.size + 1) 0 [.int .i64 f.t, .int .i64 f.n]) (w.heap.size + 1) [.int .i64 f.t, .int .i64 f.n]) := HF2.out.setCs [.int .i64 f.t, .int .i64 f.n] 0 (by simp)
  have HR3 : Hid (Row (w2.setCells (w.heap.size + 1) 0 [.int .i64 f.t, .int .i64 f.n]) w.heap.size [.int .i64 0, .int .i64 0]) := HR2.out.apartCs (by omega) _ _
  have HH3 : Hid (Row (w2.setCells (w.heap.size + 1) 0 [.int .i64 f.t, .int .i64 f.n]) hb [.slice (some ⟨g, 0, none⟩) (m + 1) C]) := HH2.out.apartCs (by omega) _ _
  have HO3 : Hid ((w2.setCells (w.heap.size + 1) 0 [.int .i64 f.t, .int .i64 f.n]).ownsRow B 30 2 (.slice (some ⟨g, 0, none⟩) (m + 1) C) (m + 1) (flatD l)) := HO2.out.kept (grown_setCs _ _) (.inr (fun e => by have := Option.some.inj e; simp at this; omega))
  have HD3 : Hid (Duo w (w2.setCells (w.heap.size + 1) 0 [.int .i64 f.t, .int .i64 f.n]) hb g) := HD2.out.then' (below_setCs (Nat.le_succ _) _ _ (Below.refl w.heap.size w2))
  generalize w2.setCells (w.heap.size + 1) 0 [.int .i64 f.t, .int .i64 f.n] = w3 at HF3 HR3 HH3 HO3 HD3 ⊢
  clear HF2 HR2 HH2 HO2 HD2 HB2 hs2
  have d0 := (owns_row HO3.out).1.cell (m * 2) _ (em.out 0 _ rfl (by decide))
  have d1 := (owns_row HO3.out).1.cell (m * 2 + 1) _ (em.out 1 _ rfl (by decide))
  go_wp2_with (refine stay_store 30 ?_)
  refine ⟨?_⟩
  refine wpList_store_mid rfl 30 _ _ rfl g 0 _ rfl rfl ((owns_row HO3.out).1.room 0 2 (by rw [HLe.out.2]; omega)) szDue (by simp [Value.oneCell']) ?_
  show wpList _ _ _ _ _ (w3.setCells g 0 [.int .i64 x.t, .int .i64 x.n])
  have HF4 : Hid (Row (w3.setCells g 0 [.int .i64 x.t, .int .i64 x.n]) (w.heap.size + 1) [.int .i64 f.t, .int .i64 f.n]) := HF3.out.apartCs (by omega) _ _
  have HR4 : Hid (Row (w3.setCells g 0 [.int .i64 x.t, .int .i64 x.n]) w.heap.size [.int .i64 0, .int .i64 0]) := HR3.out.apartCs (by omega) _ _
  have HH4 : Hid (Row (w3.setCells g 0 [.int .i64 x.t, .int .i64 x.n]) hb [.slice (some ⟨g, 0, none⟩) (m + 1) C]) := HH3.out.apartCs (Ne.symm hne) _ _
  have HO4 : Hid ((w3.setCells g 0 [.int .i64 x.t, .int .i64 x.n]).ownsRow B 30 2 (.slice (some ⟨g, 0, none⟩) m C) m (flatD (l.dropLast.set 0 x))) := by
    show World.ownsRow _ _ _ _ _ _ _
    have h8 := owns_setG [.int .i64 x.t, .int .i64 x.n] 0 HO3.out (by rw [HLe.out.2]; simp; omega)
    have e8 : Go.Proofs.Ytdmmjggkdkmeaaa.putL (flatD l) (0 * 2) [.int .i64 x.t, .int .i64 x.n] = flatD (l.set 0 x) := flatD_set x HLe.out.1
    rw [Nat.zero_mul] at e8
    rw [e8] at h8
    have h9 := owns_cut h8
    have e9 := flatD_dropLast (l.set 0 x)
    rw [List.length_set, HM.out, Nat.add_sub_cancel, set_dropLast] at e9
    rwa [e9] at h9
  have HD4 : Hid (Duo w (w3.setCells g 0 [.int .i64 x.t, .int .i64 x.n]) hb g) := HD3.out.grown (grown_setCs _ _) (.inr rfl)
  generalize w3.setCells g 0 [.int .i64 x.t, .int .i64 x.n] = w4 at HF4 HR4 HH4 HO4 HD4 ⊢
  clear HF3 HR3 HH3 HO3 HD3 d0 d1
  have h0 := HH4.out.cell 0 _ rfl
  have hf0 := HH4.out.free 0
  have HSi := fun W hW => sink_c B g C (l.dropLast.set 0 x) (by rw [HYl.out]; omega) W hW
  rw [HYl.out, ← HDP.out] at HSi
  have HS : Hid (∀ W : World, W.ownsRow B 30 2 (.slice (some ⟨g, 0, none⟩) m C) m (flatD (l.dropLast.set 0 x)) → Calls Try.prog 49 #[.slice (some ⟨g, 0, none⟩) m C, .int .i64 0] W fun e w' => e = .returned (.tuple #[]) ∧ w'.ownsRow B 30 2 (.slice (some ⟨g, 0, none⟩) m C) m (flatD (dpop l)) ∧ W.grownBy w' (some g)) := HSi
  clear HSi
  go_wp2_with fail
  have HH5 : Hid (Row (w4.setCell ⟨hb, 0, none⟩ (.slice (some ⟨g, 0, none⟩) m C)) hb [.slice (some ⟨g, 0, none⟩) m C]) := HH4.out.set 0 (by simp) _
  have HF5 : Hid (Row (w4.setCell ⟨hb, 0, none⟩ (.slice (some ⟨g, 0, none⟩) m C)) (w.heap.size + 1) [.int .i64 f.t, .int .i64 f.n]) := HF4.out.apart hb 0 _ (by omega)
  have HR5 : Hid (Row (w4.setCell ⟨hb, 0, none⟩ (.slice (some ⟨g, 0, none⟩) m C)) w.heap.size [.int .i64 0, .int .i64 0]) := HR4.out.apart hb 0 _ (by omega)
  have HO5 : Hid ((w4.setCell ⟨hb, 0, none⟩ (.slice (some ⟨g, 0, none⟩) m C)).ownsRow B 30 2 (.slice (some ⟨g, 0, none⟩) m C) m (flatD (l.dropLast.set 0 x))) := HO4.out.kept (Lib.grownBy_setCell w4 hb 0 _) (.inr (fun e => hne (Option.some.inj e)))
  have HD5 : Hid (Duo w (w4.setCell ⟨hb, 0, none⟩ (.slice (some ⟨g, 0, none⟩) m C)) hb g) := HD4.out.grown (Lib.grownBy_setCell w4 hb 0 _) (.inl rfl)
  generalize w4.setCell ⟨hb, 0, none⟩ (.slice (some ⟨g, 0, none⟩) m C) = w5 at HH5 HF5 HR5 HO5 HD5 ⊢
  clear HH4 HF4 HR4 HO4 HD4 h0 hf0
  refine (HS.out _ HO5.out).mono ?_
  rintro e w6 ⟨rfl, ho, hgr⟩
  have HO6 : Hid (w6.ownsRow B 30 2 (.slice (some ⟨g, 0, none⟩) m C) m (flatD (dpop l))) := ho
  have HH6 : Hid (Row w6 hb [.slice (some ⟨g, 0, none⟩) m C]) := HH5.out.far hgr (fun e => hne (Option.some.inj e).symm)
  have HF6 : Hid (Row w6 (w.heap.size + 1) [.int .i64 f.t, .int .i64 f.n]) := HF5.out.far hgr (fun e => by have := Option.some.inj e; omega)
  have HR6 : Hid (Row w6 w.heap.size [.int .i64 0, .int .i64 0]) := HR5.out.far hgr (fun e => by have := Option.some.inj e; omega)
  have HD6 : Hid (Duo w w6 hb g) := HD5.out.grown hgr (.inr rfl)
  clear ho hgr HH5 HF5 HR5 HO5 HD5 HS
  have f0 := HF6.out.cell 0 _ rfl
  have f1 := HF6.out.cell 1 _ rfl
  go_wp2_with (refine stay_store 30 ?_)
  refine ⟨?_⟩
  refine wpList_store_mid rfl 30 _ _ rfl w.heap.size 0 _ rfl rfl (HR6.out.room 0 2 (by simp)) szDue (by simp [Value.oneCell']) ?_
  show wpList _ _ _ _ _ (w6.setCells w.heap.size 0 [.int .i64 f.t, .int .i64 f.n])
  have HR7 : Hid (Row (w6.setCells w.heap.size 0 [.int .i64 f.t, .int .i64 f.n]) w.heap.size [.int .i64 f.t, .int .i64 f.n]) := HR6.out.setCs [.int .i64 f.t, .int .i64 f.n] 0 (by simp)
  have HH7 : Hid (Row (w6.setCells w.heap.size 0 [.int .i64 f.t, .int .i64 f.n]) hb [.slice (some ⟨g, 0, none⟩) m C]) := HH6.out.apartCs (by omega) _ _
  have HO7 : Hid ((w6.setCells w.heap.size 0 [.int .i64 f.t, .int .i64 f.n]).ownsRow B 30 2 (.slice (some ⟨g, 0, none⟩) m C) m (flatD (dpop l))) := HO6.out.kept (grown_setCs _ _) (.inr (fun e => by have := Option.some.inj e; simp at this; omega))
  have HD7 : Hid (Duo w (w6.setCells w.heap.size 0 [.int .i64 f.t, .int .i64 f.n]) hb g) := HD6.out.then' (below_setCs (Nat.le_refl _) _ _ (Below.refl w.heap.size w6))
  generalize w6.setCells w.heap.size 0 [.int .i64 f.t, .int .i64 f.n] = w7 at HR7 HH7 HO7 HD7 ⊢
  clear HR6 HH6 HO6 HD6 HF6 f0 f1
  go_wp2_with fail
  have hv := run_loadVar_mid (P := Try.prog) w7 w.heap.size 0 30 [.int .i64 f.t, .int .i64 f.n] _ HR7.out.all Try.underlying30 rfl szDue
  exact bodyPost_ret (results_one Try.results37 rfl hv) rfl ⟨rfl, HH7.out, HO7.out, HD7.out⟩
end Go.Proofs.Ytdmmjggkdkmeaaa
