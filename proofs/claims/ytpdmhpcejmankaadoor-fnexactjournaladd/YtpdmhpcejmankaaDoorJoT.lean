/- JournalAdd: the specification's. -/
import Derived.Test.YtpdmhpcejmankaaDoorJoS
import Derived.Deep.RegionHeldLaw
namespace Go.Proofs.YtpdmhpcejmankaaDoor
open Go.ChangeShapes Go.WideShapes Go.ChangeAt Go.RowKit
open Go.Joins (ownsRow_forms)

theorem bya_cells {W : World} {g : Nat} {r : List UInt8} (h : ByA W (some ⟨g, 0, none⟩) r) (j : Nat) (u : Value) (hj : (bys r)[j]? = some u) : W.cell? ((⟨g, 0, none⟩ : Addr).add j) = some u := by
  obtain ⟨x, hx, rfl⟩ : ∃ x, r[j]? = some x ∧ u = .int .u8 (x.toNat : Int) := by
    rw [bys_get] at hj
    cases h : r[j]? with
    | none => rw [h] at hj; cases hj
    | some x => rw [h] at hj; exact ⟨x, rfl, (Option.some.inj hj).symm⟩
  obtain ⟨q, o, e, _, hc⟩ := h.cell j x hx
  cases e
  rw [add_plain]
  exact hc

theorem bys_one (r : List UInt8) : ∀ u ∈ bys r, u.oneCell' = true := fun u hu => by obtain ⟨b, _, rfl⟩ := List.mem_map.1 hu; rfl

theorem bys_add (l r : List UInt8) : bys l ++ bys r = bys (l ++ r) := by simp [bys]

set_option maxHeartbeats 4000000 in
set_option maxRecDepth 100000 in
theorem specJournalAdd_c (w : World) (g : Nat) (l : List UInt8) (s k : Int) (t : List UInt8) (h : Row w g (bys l)) (hl : l.length ≤ 1048576) (ht : t.length ≤ 1048576) :
    Calls Tryd.prog 12 #[.agg #[.slice (some ⟨g, 0, none⟩) l.length l.length, .int .i64 s, .int .i64 k], .string ⟨t.toArray⟩] w fun e w' =>
      ∃ v, e = .returned (.tuple #[.agg #[v, .int .i64 (adS l s k t), .int .i64 (adK l s k t)], .int .i64 (adC l s k t)]) ∧ Ans w.heap.size w'.heap.size w' (bys (adL l s k t)) v ∧ Below w.heap.size w w' := by
  have H : Hid (JA w (some ⟨g, 0, none⟩) l.length l) := JA.of_row h
  have HG : Hid (Row w g (bys l)) := h
  have HRk : Hid (∀ W, Calls Tryd.prog 44 #[.string ⟨t.toArray⟩] W fun e w' => e = .returned (.bool (recB t)) ∧ w' = W) := fun W => specRecordOk_c ⟨t.toArray⟩ W (by simp [ByteArray.size, maxLen]; omega)
  have HX : Hid (∀ V, _ → _ ∧ _ ∧ _) := jbox2 w (some ⟨g, 0, none⟩) none l.length l.length 0 0 s k 0 0
  clear h
  cases hok : jokB l s k
  · obtain ⟨e1, e2, e3, e4⟩ := ad_one (l := l) (s := s) (k := k) (t := t) (by rw [hok]; rfl)
    rw [e1, e2, e3, e4]
    have HOK : Hid (jokB l s k = false) := hok
    clear hok e1 e2 e3 e4
    go_enter Tryd.func12, Tryd.ntmps12
    go_wp2_with fail
    generalize hV : (w.alloc (.cells #[.slice (some ⟨g, 0, none⟩) l.length l.length, .int .i64 s, .int .i64 k] 24)).alloc (.cells #[.slice none 0 0, .int .i64 0, .int .i64 0] 24) = V
    obtain ⟨hr1, hr2, hb0⟩ := HX.out V hV.symm
    have HA : Hid (Row V w.heap.size [.slice (some ⟨g, 0, none⟩) l.length l.length, .int .i64 s, .int .i64 k]) := hr1
    have HR : Hid (Row V (w.heap.size + 1) [.slice none 0 0, .int .i64 0, .int .i64 0]) := hr2
    have HV : Hid (Below w.heap.size w V) := hb0
    clear hr1 hr2 hb0 hV HX
    refine (specJournalOk_c V _ l.length l s k (H.out.below HV.out) hl).mono ?_
    rintro e w1 ⟨rfl, hb⟩
    rw [HOK.out]
    have HB1 : Hid (Below w.heap.size w w1) := below_then HV.out hb
    have HA1 : Hid (Row w1 w.heap.size [.slice (some ⟨g, 0, none⟩) l.length l.length, .int .i64 s, .int .i64 k]) := HA.out.below hb
    have HR1 : Hid (Row w1 (w.heap.size + 1) [.slice none 0 0, .int .i64 0, .int .i64 0]) := HR.out.below hb
    clear hb HA HR
    have t0 := HA1.out.cell 0 _ rfl
    have t1 := HA1.out.cell 1 _ rfl
    have t2 := HA1.out.cell 2 _ rfl
    have r0 := HR1.out.cell 0 _ rfl
    have r1 := HR1.out.cell 1 _ rfl
    have r2 := HR1.out.cell 2 _ rfl
    have rf0 := HR1.out.free 0
    have rf1 := HR1.out.free 1
    have rf2 := HR1.out.free 2
    go_wp2_with fail
    have HF := fin_journal (w := w) (s := 0) (k := 0) HR1.out (⟨none, 0, rfl, .inl rfl⟩ : Ans (w.heap.size + 2) w1.heap.size w1 [] (.slice none 0 0)) (by omega) HB1.out (Nat.le_succ _) _ rfl
    generalize World.setCell _ (⟨w.heap.size + 1, 2, none⟩ : Addr) _ = F at HF ⊢
    obtain ⟨h1, h2, h3, _⟩ := HF
    have f0 := h1.cell 0 _ rfl
    have f1 := h1.cell 1 _ rfl
    have f2 := h1.cell 2 _ rfl
    refine bodyPost_ret (v := .tuple #[.agg #[.slice none 0 0, .int .i64 0, .int .i64 0], .int .i64 1]) (by simp [results, Tryd.results12, go_sem, f0, f1, f2]) rfl ?_
    exact ⟨_, rfl, ⟨none, 0, rfl, .inl rfl⟩, h3⟩
  · have HOK : Hid (jokB l s k = true) := hok
    cases hrc : recB t
    · obtain ⟨e1, e2, e3, e4⟩ := ad_one (l := l) (s := s) (k := k) (t := t) (by rw [hok, hrc]; rfl)
      rw [e1, e2, e3, e4]
      rw [hrc] at HRk
      clear hok e1 e2 e3 e4 hrc
      go_enter Tryd.func12, Tryd.ntmps12
      go_wp2_with fail
      generalize hV : (w.alloc (.cells #[.slice (some ⟨g, 0, none⟩) l.length l.length, .int .i64 s, .int .i64 k] 24)).alloc (.cells #[.slice none 0 0, .int .i64 0, .int .i64 0] 24) = V
      obtain ⟨hr1, hr2, hb0⟩ := HX.out V hV.symm
      have HA : Hid (Row V w.heap.size [.slice (some ⟨g, 0, none⟩) l.length l.length, .int .i64 s, .int .i64 k]) := hr1
      have HR : Hid (Row V (w.heap.size + 1) [.slice none 0 0, .int .i64 0, .int .i64 0]) := hr2
      have HV : Hid (Below w.heap.size w V) := hb0
      clear hr1 hr2 hb0 hV HX
      refine (specJournalOk_c V _ l.length l s k (H.out.below HV.out) hl).mono ?_
      rintro e w1 ⟨rfl, hb⟩
      rw [HOK.out]
      have HB1 : Hid (Below w.heap.size w w1) := below_then HV.out hb
      have HA1 : Hid (Row w1 w.heap.size [.slice (some ⟨g, 0, none⟩) l.length l.length, .int .i64 s, .int .i64 k]) := HA.out.below hb
      have HR1 : Hid (Row w1 (w.heap.size + 1) [.slice none 0 0, .int .i64 0, .int .i64 0]) := HR.out.below hb
      clear hb HA HR
      go_wp2_with fail
      refine (HRk.out _).mono ?_
      rintro e w2 ⟨rfl, rfl⟩
      have t0 := HA1.out.cell 0 _ rfl
      have t1 := HA1.out.cell 1 _ rfl
      have t2 := HA1.out.cell 2 _ rfl
      have r0 := HR1.out.cell 0 _ rfl
      have r1 := HR1.out.cell 1 _ rfl
      have r2 := HR1.out.cell 2 _ rfl
      have rf0 := HR1.out.free 0
      have rf1 := HR1.out.free 1
      have rf2 := HR1.out.free 2
      go_wp2_with fail
      have HF := fin_journal (w := w) (s := 0) (k := 0) HR1.out (⟨none, 0, rfl, .inl rfl⟩ : Ans (w.heap.size + 2) w2.heap.size w2 [] (.slice none 0 0)) (by omega) HB1.out (Nat.le_succ _) _ rfl
      generalize World.setCell _ (⟨w.heap.size + 1, 2, none⟩ : Addr) _ = F at HF ⊢
      obtain ⟨h1, h2, h3, _⟩ := HF
      have f0 := h1.cell 0 _ rfl
      have f1 := h1.cell 1 _ rfl
      have f2 := h1.cell 2 _ rfl
      refine bodyPost_ret (v := .tuple #[.agg #[.slice none 0 0, .int .i64 0, .int .i64 0], .int .i64 1]) (by simp [results, Tryd.results12, go_sem, f0, f1, f2]) rfl ?_
      exact ⟨_, rfl, ⟨none, 0, rfl, .inl rfl⟩, h3⟩
    · obtain ⟨p1, p2, p3, p4, _⟩ := jok_parts hok
      have hrd := rd_le l
      have ht2 : t.length ≤ 200 := by
        have := hrc
        unfold recB at this
        simp only [Bool.and_eq_true, decide_eq_true_eq] at this
        exact this.2.2
      have hwk : IntKind.i64.wrap (k + 1) = k + 1 := by rw [IntKind.wrap_i64]; omega
      have hnl : (numL k).length ≤ 10 := by
        have := hd_len (rdR l).1.length
        rw [hdL, p4, List.length_append] at this
        simp at this
        omega
      have hrl : (recL k t).length = (numL k).length + t.length + 2 := by simp [recL]; omega
      have hboth : (jokB l s k && recB t) = true := by rw [hok, hrc]; rfl
      rw [hrc] at HRk
      have HLn : Hid (∀ W, Calls Tryd.prog 39 #[.int .i64 k, .string ⟨t.toArray⟩] W fun e w' => e = .returned (.string ⟨(recL k t).toArray⟩) ∧ Below W.heap.size W w') := fun W => by
        have := l07Record_c (rdR l).1.length t (by omega) W
        rw [p4, show hdL (rdR l).1.length ++ t ++ [10] = recL k t from by rw [← p4]; simp [recL, hdL]] at this
        exact this
      clear hok hrc hrd p4
      by_cases hfit : l.length + (recL k t).length ≤ 40000
      · obtain ⟨e1, e2, e3, e4⟩ := ad_yes hboth hfit
        rw [e1, e2, e3, e4]
        clear e1 e2 e3 e4 hboth
        generalize recL k t = r at hrl hfit HLn ⊢
        have hr0 : 0 < r.length := by omega
        have hr1 : r.length ≤ 1048576 := by omega
        have HFit : Hid (l.length + r.length ≤ 40000) := hfit
        clear hrl hfit
        go_enter Tryd.func12, Tryd.ntmps12
        go_wp2_with fail
        generalize hV : (w.alloc (.cells #[.slice (some ⟨g, 0, none⟩) l.length l.length, .int .i64 s, .int .i64 k] 24)).alloc (.cells #[.slice none 0 0, .int .i64 0, .int .i64 0] 24) = V
        obtain ⟨hr1, hr2, hb0⟩ := HX.out V hV.symm
        have HA : Hid (Row V w.heap.size [.slice (some ⟨g, 0, none⟩) l.length l.length, .int .i64 s, .int .i64 k]) := hr1
        have HR : Hid (Row V (w.heap.size + 1) [.slice none 0 0, .int .i64 0, .int .i64 0]) := hr2
        have HV : Hid (Below w.heap.size w V) := hb0
        clear hr1 hr2 hb0 hV HX
        refine (specJournalOk_c V _ l.length l s k (H.out.below HV.out) hl).mono ?_
        rintro e w1 ⟨rfl, hb⟩
        rw [HOK.out]
        have HB1 : Hid (Below w.heap.size w w1) := below_then HV.out hb
        have HA1 : Hid (Row w1 w.heap.size [.slice (some ⟨g, 0, none⟩) l.length l.length, .int .i64 s, .int .i64 k]) := HA.out.below hb
        have HR1 : Hid (Row w1 (w.heap.size + 1) [.slice none 0 0, .int .i64 0, .int .i64 0]) := HR.out.below hb
        clear hb HA HR
        have t0 := HA1.out.cell 0 _ rfl
        have t1 := HA1.out.cell 1 _ rfl
        have t2 := HA1.out.cell 2 _ rfl
        have r0 := HR1.out.cell 0 _ rfl
        have r1 := HR1.out.cell 1 _ rfl
        have r2 := HR1.out.cell 2 _ rfl
        have rf0 := HR1.out.free 0
        have rf1 := HR1.out.free 1
        have rf2 := HR1.out.free 2
        go_wp2_with fail
        refine (HRk.out _).mono ?_
        rintro e w2 ⟨rfl, rfl⟩
        have t0 := HA1.out.cell 0 _ rfl
        have t1 := HA1.out.cell 1 _ rfl
        have t2 := HA1.out.cell 2 _ rfl
        have r0 := HR1.out.cell 0 _ rfl
        have r1 := HR1.out.cell 1 _ rfl
        have r2 := HR1.out.cell 2 _ rfl
        have rf0 := HR1.out.free 0
        have rf1 := HR1.out.free 1
        have rf2 := HR1.out.free 2
        go_wp2_with fail
        have hR2 : w.heap.size + 2 ≤ w2.heap.size := HR1.out.lt
        obtain ⟨i0, hi, hz0, hz1, hz2⟩ := info_parts infoByte
        obtain ⟨CW, CC, hcv, hcw⟩ : ∃ (CW : World → World) (CC : World → Nat), (∀ W, (convert 9 22 (.string ⟨r.toArray⟩)).run Tryd.prog W = .ok (.slice (some ⟨W.heap.size, 0, none⟩) r.length (CC W)) (CW W)) ∧
            ∀ W, Below W.heap.size W (CW W) ∧ ByA (CW W) (some ⟨W.heap.size, 0, none⟩) r :=
          ⟨fun W => Lib.bytesWorld W 5 ⟨r.toArray⟩, fun W => grownCap W r.length 0 5, fun W => conv_text _ W, fun W => ⟨bw_below _ _ _, bw_bytes W _ ⟨r.toArray⟩⟩⟩
        have HCW : Hid (∀ W, Below W.heap.size W (CW W) ∧ ByA (CW W) (some ⟨W.heap.size, 0, none⟩) r) := hcw
        clear hcw
        generalize hz : (⟨r.toArray⟩ : ByteArray) = z at hcv HLn
        clear hz
        have hne1 : w.heap.size ≠ w2.heap.size := by omega
        have hne2 : w.heap.size + 1 ≠ w2.heap.size := by omega
        have hgl : g < w.heap.size := HG.out.lt
        have HU : Hid (Below w2.heap.size w2 (w2.alloc (.cells #[] 5)).drew) := below_then (low_alloc w2 _) (low_drew _)
        have HOw : Hid ((w2.alloc (.cells #[] 5)).drew.ownsRow w2.heap.size 5 1 (.slice (some ⟨w2.heap.size, 0, none⟩) 0 0) 0 []) := owns_kept (World.ownsRow_made w2 #[] 0 (Nat.le_refl _) (by decide) rfl) (low_drew _)
        have HN : Hid (∀ j u, (bys l)[j]? = some u → (w2.alloc (.cells #[] 5)).drew.cell? ((⟨g, 0, none⟩ : Addr).add j) = some u) := fun j u hj => by
          rw [add_plain, Nat.zero_add]
          exact ((HG.out.below HB1.out).below HU.out).cell j u hj
        have K1 : Hid (Kq w w.heap.size [.slice (some ⟨g, 0, none⟩) l.length l.length, .int .i64 s, .int .i64 k] w2) := ⟨HB1.out, HA1.out⟩
        have K2 : Hid (Kq w w.heap.size [.slice (some ⟨g, 0, none⟩) l.length l.length, .int .i64 s, .int .i64 k] (w2.alloc (.cells #[] 5)).drew) := K1.out.below HU.out
        have HK : Hid (∀ W, Kq w w.heap.size [.slice (some ⟨g, 0, none⟩) l.length l.length, .int .i64 s, .int .i64 k] W → Kq w w.heap.size [.slice (some ⟨g, 0, none⟩) l.length l.length, .int .i64 s, .int .i64 k] W ∧ W.cell? ⟨w.heap.size, 0, none⟩ = some (.slice (some ⟨g, 0, none⟩) l.length l.length) ∧ W.cell? ⟨w.heap.size, 2, none⟩ = some (.int .i64 k)) := fun W hW => ⟨hW, hW.p.cell 0 _ rfl, hW.p.cell 2 _ rfl⟩
        have hmx : l.length + r.length ≤ maxLen := by unfold maxLen; omega
        clear t0 t1 t2 r0 r1 r2 rf0 rf1 rf2
        go_region_held_law (fun W => Kq w w.heap.size [.slice (some ⟨g, 0, none⟩) l.length l.length, .int .i64 s, .int .i64 k] W ∧ W.cell? ⟨w.heap.size, 0, none⟩ = some (.slice (some ⟨g, 0, none⟩) l.length l.length) ∧ W.cell? ⟨w.heap.size, 2, none⟩ = some (.int .i64 k))
          (first | exact HK.out _ Kz.out | exact HK.out _ (Km.out.below (HCW.out _).1) | exact HK.out _ Km.out | exact HK.out _ Kk.out | exact HK.out _ K2.out | exact HK.out _ (K1.out.below (low_drew _)) | (trace_state; done))
          ((first
            | (refine step_app_own rfl _ _ 22 rfl w2.heap.size 5 i0 (.int .u8 0) 1 1 Tryd.underlying22 hi hz0 hz1 hz2 rfl (by decide) w2.heap.size 0 0 [] (by rfl) HOw.out ⟨g, 0, none⟩ l.length l.length (bys l) (by rfl) (by rw [bys_len]; omega) HN.out (bys_one l) (by unfold maxLen at *; omega) (by omega) (by simp) ?_; intro gk ck wk hown hgrow; rw [Nat.zero_add, List.nil_append] at hown; have HAk : Hid (Row wk w.heap.size [.slice (some ⟨g, 0, none⟩) l.length l.length, .int .i64 s, .int .i64 k]) := (HA1.out.below HU.out).far hgrow (fun e => hne1 (Option.some.inj e)); have HRk : Hid (Row wk (w.heap.size + 1) [.slice none 0 0, .int .i64 0, .int .i64 0]) := (HR1.out.below HU.out).far hgrow (fun e => hne2 (Option.some.inj e)); have HBk : Hid (Below w.heap.size w wk) := (below_then HB1.out HU.out).grown hgrow (Nat.le_trans HB1.out.size HU.out.size) (fun q hq => by cases hq; omega); have HOk : Hid (wk.ownsRow w2.heap.size 5 1 (.slice (some ⟨gk, 0, none⟩) l.length ck) l.length (bys l)) := hown; have Kk : Hid (Kq w w.heap.size [.slice (some ⟨g, 0, none⟩) l.length l.length, .int .i64 s, .int .i64 k] wk) := ⟨HBk.out, HAk.out⟩; rw [Nat.zero_add]; have hszk : w2.heap.size ≤ wk.heap.size := Nat.le_trans HU.out.size hgrow.size; have hgk : w2.heap.size ≤ gk := (HOk.out.lt gk rfl).1; clear hown hgrow)
            | (go_at_call 39; refine (HLn.out _).mono ?_; rintro e wm ⟨rfl, hb⟩; have HRm : Hid (Row wm (w.heap.size + 1) [.slice none 0 0, .int .i64 0, .int .i64 0]) := HRk.out.below hb; have Km : Hid (Kq w w.heap.size [.slice (some ⟨g, 0, none⟩) l.length l.length, .int .i64 s, .int .i64 k] wm) := Kk.out.below hb; have HOm : Hid ((CW wm).ownsRow w2.heap.size 5 1 (.slice (some ⟨gk, 0, none⟩) l.length ck) l.length (bys l)) := owns_kept (owns_kept HOk.out hb) (HCW.out wm).1; have hszm : w2.heap.size ≤ (CW wm).heap.size := Nat.le_trans hszk (Nat.le_trans hb.size (HCW.out wm).1.size); clear hb)
            | (refine step_app_own rfl _ _ 22 rfl w2.heap.size 5 i0 (.int .u8 0) 1 1 Tryd.underlying22 hi hz0 hz1 hz2 rfl (by decide) gk l.length ck (bys l) (by rfl) HOm.out ⟨wm.heap.size, 0, none⟩ r.length (CC wm) (bys r) (by rfl) (by rw [bys_len]; omega) (fun j u hj => bya_cells (HCW.out wm).2 j u hj) (bys_one r) hmx (by omega) hszm ?_; intro gz cz wz hown hgrow; rw [bys_add] at hown; have HBz : Hid (Below w.heap.size w wz) := (Km.out.below (HCW.out wm).1).low.grown hgrow (by omega) (fun q hq => by cases hq; omega); have HAz : Hid (Row wz w.heap.size [.slice (some ⟨g, 0, none⟩) l.length l.length, .int .i64 s, .int .i64 k]) := (Km.out.below (HCW.out wm).1).p.far hgrow (fun e => absurd (Option.some.inj e) (by omega)); have HRz : Hid (Row wz (w.heap.size + 1) [.slice none 0 0, .int .i64 0, .int .i64 0]) := (HRm.out.below (HCW.out wm).1).far hgrow (fun e => absurd (Option.some.inj e) (by omega)); have HAn : Hid (Ans w2.heap.size wz.heap.size wz (bys (l ++ r)) (.slice (some ⟨gz, 0, none⟩) (l.length + r.length) cz)) := Ans.of_owns hown; have Kz : Hid (Kq w w.heap.size [.slice (some ⟨g, 0, none⟩) l.length l.length, .int .i64 s, .int .i64 k] wz) := ⟨HBz.out, HAz.out⟩; have t1 := HAz.out.cell 1 _ rfl; have t2 := HAz.out.cell 2 _ rfl; have r0 := HRz.out.cell 0 _ rfl; have r1 := HRz.out.cell 1 _ rfl; have r2 := HRz.out.cell 2 _ rfl; have rf0 := HRz.out.free 0; have rf1 := HRz.out.free 1; have rf2 := HRz.out.free 2; clear hown hgrow)))
        all_goals
          have hzf : ¬ ((40000 : Int) < (l.length : Int) + (r.length : Int)) := by have := HFit.out; omega
          go_wp2_with fail
          have HF := fin_journal (w := w) (s := s) (k := k + 1) HRz.out HAn.out (by omega) HBz.out (Nat.le_succ _) _ rfl
          generalize World.setCell _ (⟨w.heap.size + 1, 2, none⟩ : Addr) _ = F at HF ⊢
          obtain ⟨h1, h2, h3, h4⟩ := HF
          have f0 := h1.cell 0 _ rfl
          have f1 := h1.cell 1 _ rfl
          have f2 := h1.cell 2 _ rfl
          refine bodyPost_ret (v := .tuple #[.agg #[.slice (some ⟨gz, 0, none⟩) (l.length + r.length) cz, .int .i64 (s), .int .i64 (k + 1)], .int .i64 0]) (by simp [results, Tryd.results12, go_sem, f0, f1, f2]) rfl ?_
          exact ⟨_, rfl, h2.wide (by omega) (by omega), h3⟩
      · obtain ⟨e1, e2, e3, e4⟩ := ad_two hboth hfit
        rw [e1, e2, e3, e4]
        clear e1 e2 e3 e4 hboth
        generalize recL k t = r at hrl hfit HLn ⊢
        have hr0 : 0 < r.length := by omega
        have hr1 : r.length ≤ 1048576 := by omega
        have HFit : Hid (¬ l.length + r.length ≤ 40000) := hfit
        clear hrl hfit
        go_enter Tryd.func12, Tryd.ntmps12
        go_wp2_with fail
        generalize hV : (w.alloc (.cells #[.slice (some ⟨g, 0, none⟩) l.length l.length, .int .i64 s, .int .i64 k] 24)).alloc (.cells #[.slice none 0 0, .int .i64 0, .int .i64 0] 24) = V
        obtain ⟨hr1, hr2, hb0⟩ := HX.out V hV.symm
        have HA : Hid (Row V w.heap.size [.slice (some ⟨g, 0, none⟩) l.length l.length, .int .i64 s, .int .i64 k]) := hr1
        have HR : Hid (Row V (w.heap.size + 1) [.slice none 0 0, .int .i64 0, .int .i64 0]) := hr2
        have HV : Hid (Below w.heap.size w V) := hb0
        clear hr1 hr2 hb0 hV HX
        refine (specJournalOk_c V _ l.length l s k (H.out.below HV.out) hl).mono ?_
        rintro e w1 ⟨rfl, hb⟩
        rw [HOK.out]
        have HB1 : Hid (Below w.heap.size w w1) := below_then HV.out hb
        have HA1 : Hid (Row w1 w.heap.size [.slice (some ⟨g, 0, none⟩) l.length l.length, .int .i64 s, .int .i64 k]) := HA.out.below hb
        have HR1 : Hid (Row w1 (w.heap.size + 1) [.slice none 0 0, .int .i64 0, .int .i64 0]) := HR.out.below hb
        clear hb HA HR
        have t0 := HA1.out.cell 0 _ rfl
        have t1 := HA1.out.cell 1 _ rfl
        have t2 := HA1.out.cell 2 _ rfl
        have r0 := HR1.out.cell 0 _ rfl
        have r1 := HR1.out.cell 1 _ rfl
        have r2 := HR1.out.cell 2 _ rfl
        have rf0 := HR1.out.free 0
        have rf1 := HR1.out.free 1
        have rf2 := HR1.out.free 2
        go_wp2_with fail
        refine (HRk.out _).mono ?_
        rintro e w2 ⟨rfl, rfl⟩
        have t0 := HA1.out.cell 0 _ rfl
        have t1 := HA1.out.cell 1 _ rfl
        have t2 := HA1.out.cell 2 _ rfl
        have r0 := HR1.out.cell 0 _ rfl
        have r1 := HR1.out.cell 1 _ rfl
        have r2 := HR1.out.cell 2 _ rfl
        have rf0 := HR1.out.free 0
        have rf1 := HR1.out.free 1
        have rf2 := HR1.out.free 2
        go_wp2_with fail
        have hR2 : w.heap.size + 2 ≤ w2.heap.size := HR1.out.lt
        obtain ⟨i0, hi, hz0, hz1, hz2⟩ := info_parts infoByte
        obtain ⟨CW, CC, hcv, hcw⟩ : ∃ (CW : World → World) (CC : World → Nat), (∀ W, (convert 9 22 (.string ⟨r.toArray⟩)).run Tryd.prog W = .ok (.slice (some ⟨W.heap.size, 0, none⟩) r.length (CC W)) (CW W)) ∧
            ∀ W, Below W.heap.size W (CW W) ∧ ByA (CW W) (some ⟨W.heap.size, 0, none⟩) r :=
          ⟨fun W => Lib.bytesWorld W 5 ⟨r.toArray⟩, fun W => grownCap W r.length 0 5, fun W => conv_text _ W, fun W => ⟨bw_below _ _ _, bw_bytes W _ ⟨r.toArray⟩⟩⟩
        have HCW : Hid (∀ W, Below W.heap.size W (CW W) ∧ ByA (CW W) (some ⟨W.heap.size, 0, none⟩) r) := hcw
        clear hcw
        generalize hz : (⟨r.toArray⟩ : ByteArray) = z at hcv HLn
        clear hz
        have hne1 : w.heap.size ≠ w2.heap.size := by omega
        have hne2 : w.heap.size + 1 ≠ w2.heap.size := by omega
        have hgl : g < w.heap.size := HG.out.lt
        have HU : Hid (Below w2.heap.size w2 (w2.alloc (.cells #[] 5)).drew) := below_then (low_alloc w2 _) (low_drew _)
        have HOw : Hid ((w2.alloc (.cells #[] 5)).drew.ownsRow w2.heap.size 5 1 (.slice (some ⟨w2.heap.size, 0, none⟩) 0 0) 0 []) := owns_kept (World.ownsRow_made w2 #[] 0 (Nat.le_refl _) (by decide) rfl) (low_drew _)
        have HN : Hid (∀ j u, (bys l)[j]? = some u → (w2.alloc (.cells #[] 5)).drew.cell? ((⟨g, 0, none⟩ : Addr).add j) = some u) := fun j u hj => by
          rw [add_plain, Nat.zero_add]
          exact ((HG.out.below HB1.out).below HU.out).cell j u hj
        have K1 : Hid (Kq w w.heap.size [.slice (some ⟨g, 0, none⟩) l.length l.length, .int .i64 s, .int .i64 k] w2) := ⟨HB1.out, HA1.out⟩
        have K2 : Hid (Kq w w.heap.size [.slice (some ⟨g, 0, none⟩) l.length l.length, .int .i64 s, .int .i64 k] (w2.alloc (.cells #[] 5)).drew) := K1.out.below HU.out
        have HK : Hid (∀ W, Kq w w.heap.size [.slice (some ⟨g, 0, none⟩) l.length l.length, .int .i64 s, .int .i64 k] W → Kq w w.heap.size [.slice (some ⟨g, 0, none⟩) l.length l.length, .int .i64 s, .int .i64 k] W ∧ W.cell? ⟨w.heap.size, 0, none⟩ = some (.slice (some ⟨g, 0, none⟩) l.length l.length) ∧ W.cell? ⟨w.heap.size, 2, none⟩ = some (.int .i64 k)) := fun W hW => ⟨hW, hW.p.cell 0 _ rfl, hW.p.cell 2 _ rfl⟩
        have hmx : l.length + r.length ≤ maxLen := by unfold maxLen; omega
        clear t0 t1 t2 r0 r1 r2 rf0 rf1 rf2
        go_region_held_law (fun W => Kq w w.heap.size [.slice (some ⟨g, 0, none⟩) l.length l.length, .int .i64 s, .int .i64 k] W ∧ W.cell? ⟨w.heap.size, 0, none⟩ = some (.slice (some ⟨g, 0, none⟩) l.length l.length) ∧ W.cell? ⟨w.heap.size, 2, none⟩ = some (.int .i64 k))
          (first | exact HK.out _ Kz.out | exact HK.out _ (Km.out.below (HCW.out _).1) | exact HK.out _ Km.out | exact HK.out _ Kk.out | exact HK.out _ K2.out | exact HK.out _ (K1.out.below (low_drew _)) | (trace_state; done))
          ((first
            | (refine step_app_own rfl _ _ 22 rfl w2.heap.size 5 i0 (.int .u8 0) 1 1 Tryd.underlying22 hi hz0 hz1 hz2 rfl (by decide) w2.heap.size 0 0 [] (by rfl) HOw.out ⟨g, 0, none⟩ l.length l.length (bys l) (by rfl) (by rw [bys_len]; omega) HN.out (bys_one l) (by unfold maxLen at *; omega) (by omega) (by simp) ?_; intro gk ck wk hown hgrow; rw [Nat.zero_add, List.nil_append] at hown; have HAk : Hid (Row wk w.heap.size [.slice (some ⟨g, 0, none⟩) l.length l.length, .int .i64 s, .int .i64 k]) := (HA1.out.below HU.out).far hgrow (fun e => hne1 (Option.some.inj e)); have HRk : Hid (Row wk (w.heap.size + 1) [.slice none 0 0, .int .i64 0, .int .i64 0]) := (HR1.out.below HU.out).far hgrow (fun e => hne2 (Option.some.inj e)); have HBk : Hid (Below w.heap.size w wk) := (below_then HB1.out HU.out).grown hgrow (Nat.le_trans HB1.out.size HU.out.size) (fun q hq => by cases hq; omega); have HOk : Hid (wk.ownsRow w2.heap.size 5 1 (.slice (some ⟨gk, 0, none⟩) l.length ck) l.length (bys l)) := hown; have Kk : Hid (Kq w w.heap.size [.slice (some ⟨g, 0, none⟩) l.length l.length, .int .i64 s, .int .i64 k] wk) := ⟨HBk.out, HAk.out⟩; rw [Nat.zero_add]; have hszk : w2.heap.size ≤ wk.heap.size := Nat.le_trans HU.out.size hgrow.size; have hgk : w2.heap.size ≤ gk := (HOk.out.lt gk rfl).1; clear hown hgrow)
            | (go_at_call 39; refine (HLn.out _).mono ?_; rintro e wm ⟨rfl, hb⟩; have HRm : Hid (Row wm (w.heap.size + 1) [.slice none 0 0, .int .i64 0, .int .i64 0]) := HRk.out.below hb; have Km : Hid (Kq w w.heap.size [.slice (some ⟨g, 0, none⟩) l.length l.length, .int .i64 s, .int .i64 k] wm) := Kk.out.below hb; have HOm : Hid ((CW wm).ownsRow w2.heap.size 5 1 (.slice (some ⟨gk, 0, none⟩) l.length ck) l.length (bys l)) := owns_kept (owns_kept HOk.out hb) (HCW.out wm).1; have hszm : w2.heap.size ≤ (CW wm).heap.size := Nat.le_trans hszk (Nat.le_trans hb.size (HCW.out wm).1.size); clear hb)
            | (refine step_app_own rfl _ _ 22 rfl w2.heap.size 5 i0 (.int .u8 0) 1 1 Tryd.underlying22 hi hz0 hz1 hz2 rfl (by decide) gk l.length ck (bys l) (by rfl) HOm.out ⟨wm.heap.size, 0, none⟩ r.length (CC wm) (bys r) (by rfl) (by rw [bys_len]; omega) (fun j u hj => bya_cells (HCW.out wm).2 j u hj) (bys_one r) hmx (by omega) hszm ?_; intro gz cz wz hown hgrow; rw [bys_add] at hown; have HBz : Hid (Below w.heap.size w wz) := (Km.out.below (HCW.out wm).1).low.grown hgrow (by omega) (fun q hq => by cases hq; omega); have HAz : Hid (Row wz w.heap.size [.slice (some ⟨g, 0, none⟩) l.length l.length, .int .i64 s, .int .i64 k]) := (Km.out.below (HCW.out wm).1).p.far hgrow (fun e => absurd (Option.some.inj e) (by omega)); have HRz : Hid (Row wz (w.heap.size + 1) [.slice none 0 0, .int .i64 0, .int .i64 0]) := (HRm.out.below (HCW.out wm).1).far hgrow (fun e => absurd (Option.some.inj e) (by omega)); have HAn : Hid (Ans w2.heap.size wz.heap.size wz (bys (l ++ r)) (.slice (some ⟨gz, 0, none⟩) (l.length + r.length) cz)) := Ans.of_owns hown; have Kz : Hid (Kq w w.heap.size [.slice (some ⟨g, 0, none⟩) l.length l.length, .int .i64 s, .int .i64 k] wz) := ⟨HBz.out, HAz.out⟩; have t1 := HAz.out.cell 1 _ rfl; have t2 := HAz.out.cell 2 _ rfl; have r0 := HRz.out.cell 0 _ rfl; have r1 := HRz.out.cell 1 _ rfl; have r2 := HRz.out.cell 2 _ rfl; have rf0 := HRz.out.free 0; have rf1 := HRz.out.free 1; have rf2 := HRz.out.free 2; clear hown hgrow)))
        all_goals
          have hzf : (40000 : Int) < (l.length : Int) + (r.length : Int) := by have := HFit.out; omega
          go_wp2_with fail
          have HF := fin_journal (w := w) (s := 0) (k := 0) HRz.out (⟨none, 0, rfl, .inl rfl⟩ : Ans (w.heap.size + 2) wz.heap.size wz [] (.slice none 0 0)) (by omega) HBz.out (Nat.le_succ _) _ rfl
          generalize World.setCell _ (⟨w.heap.size + 1, 2, none⟩ : Addr) _ = F at HF ⊢
          obtain ⟨h1, h2, h3, h4⟩ := HF
          have f0 := h1.cell 0 _ rfl
          have f1 := h1.cell 1 _ rfl
          have f2 := h1.cell 2 _ rfl
          refine bodyPost_ret (v := .tuple #[.agg #[.slice none 0 0, .int .i64 (0), .int .i64 (0)], .int .i64 2]) (by simp [results, Tryd.results12, go_sem, f0, f1, f2]) rfl ?_
          exact ⟨_, rfl, ⟨none, 0, rfl, .inl rfl⟩, h3⟩
end Go.Proofs.YtpdmhpcejmankaaDoor
