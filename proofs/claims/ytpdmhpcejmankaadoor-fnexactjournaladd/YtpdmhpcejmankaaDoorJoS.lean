/- JournalAdd: the program's and the specification's. -/
import Derived.Test.YtpdmhpcejmankaaDoorJoR
namespace Go.Proofs.YtpdmhpcejmankaaDoor
open Go.ChangeShapes Go.WideShapes Go.ChangeAt Go.RowKit
open Go.Joins (ownsRow_forms)

theorem add_any (x y : List UInt8) (hx : x.length ≤ 100000) (hy : y.length ≤ 100000) (W : World) :
    (Op.stringOp .add ⟨x.toArray⟩ ⟨y.toArray⟩).run Tryd.prog W = .ok (.string ⟨(x ++ y).toArray⟩) W :=
  run_string_add_lists W _ _ (by omega) (by omega)

theorem join_two (x y : List UInt8) : Lib.join [x, y] [32] = x ++ [32] ++ y := by simp [Lib.join, List.intercalate]

set_option maxHeartbeats 1000000 in
theorem line_two (bk : Nat) (x y : List UInt8) (hx : x.length ≤ 1000) (hy : y.length ≤ 1000) (w : World) (h : Row w bk [.string ⟨x.toArray⟩, .string ⟨y.toArray⟩]) :
    Calls Tryd.prog 41 #[.slice (some ⟨bk, 0, none⟩) 2 2] w fun e w' => e = .returned (.string ⟨(x ++ [32] ++ y ++ [10]).toArray⟩) ∧ Below w.heap.size w w' := by
  have HJ : Hid (Calls Tryd.prog 57 #[.slice (some ⟨bk, 0, none⟩) 2 2, .string ⟨#[32]⟩] w fun e w' => e = .returned (.string ⟨(x ++ [32] ++ y).toArray⟩) ∧ Below w.heap.size w w') := by
    have := Tryd.strings_Join bk 0 2 [⟨x.toArray⟩, ⟨y.toArray⟩] ⟨#[32]⟩ w (fun j u hj => by
      rw [Nat.zero_add]
      match j, hj with
      | 0, hj => simp at hj; subst hj; exact h.cell 0 _ rfl
      | 1, hj => simp at hj; subst hj; exact h.cell 1 _ rfl) h.lt (by simp) (by simp) (by
        show (Lib.join [x, y] [32]).length ≤ _
        rw [join_two]; simp; omega)
    rw [show ([⟨x.toArray⟩, ⟨y.toArray⟩] : List ByteArray).map (fun u => u.data.toList) = [x, y] from rfl, show (⟨#[32]⟩ : ByteArray).data.toList = [32] from rfl, join_two] at this
    exact this
  have h1 := add_any (x ++ [32] ++ y) [10] (by simp; omega) (by simp)
  clear h
  generalize hs1 : (⟨(x ++ [32] ++ y).toArray⟩ : ByteArray) = s1 at *
  generalize hs2 : (⟨(x ++ [32] ++ y ++ [10]).toArray⟩ : ByteArray) = s2 at *
  clear hs1 hs2
  go_enter Tryd.func41, Tryd.ntmps41
  go_wp2_with fail
  refine HJ.out.mono ?_
  rintro e w1 ⟨rfl, hb⟩
  have HB : Hid (Below w.heap.size w w1) := hb
  clear hb HJ
  go_wp2_with fail
  go_ret
  exact ⟨rfl, HB.out⟩

/-- The record that JournalAdd puts behind the others. -/
def recL (k : Int) (s : List UInt8) : List UInt8 := numL k ++ [32] ++ s ++ [10]

/-- JournalAdd's code. -/
def adC (l : List UInt8) (s k : Int) (t : List UInt8) : Int := bif jokB l s k && recB t then (bif decide (l.length + (recL k t).length ≤ 40000) then 0 else 2) else 1
/-- Its bytes. -/
def adL (l : List UInt8) (s k : Int) (t : List UInt8) : List UInt8 := bif adC l s k t == 0 then l ++ recL k t else []
def adS (l : List UInt8) (s k : Int) (t : List UInt8) : Int := bif adC l s k t == 0 then s else 0
def adK (l : List UInt8) (s k : Int) (t : List UInt8) : Int := bif adC l s k t == 0 then k + 1 else 0

theorem ad_one {l : List UInt8} {s k : Int} {t : List UInt8} (h : (jokB l s k && recB t) = false) : adC l s k t = 1 ∧ adL l s k t = [] ∧ adS l s k t = 0 ∧ adK l s k t = 0 := by
  have hc : adC l s k t = 1 := by unfold adC; rw [h]; rfl
  unfold adL adS adK
  rw [hc]
  exact ⟨rfl, rfl, rfl, rfl⟩

theorem ad_two {l : List UInt8} {s k : Int} {t : List UInt8} (h : (jokB l s k && recB t) = true) (h2 : ¬ l.length + (recL k t).length ≤ 40000) : adC l s k t = 2 ∧ adL l s k t = [] ∧ adS l s k t = 0 ∧ adK l s k t = 0 := by
  have hc : adC l s k t = 2 := by unfold adC; rw [h, decide_eq_false h2]; rfl
  unfold adL adS adK
  rw [hc]
  exact ⟨rfl, rfl, rfl, rfl⟩

theorem ad_yes {l : List UInt8} {s k : Int} {t : List UInt8} (h : (jokB l s k && recB t) = true) (h2 : l.length + (recL k t).length ≤ 40000) : adC l s k t = 0 ∧ adL l s k t = l ++ recL k t ∧ adS l s k t = s ∧ adK l s k t = k + 1 := by
  have hc : adC l s k t = 0 := by unfold adC; rw [h, decide_eq_true h2]; rfl
  unfold adL adS adK
  rw [hc]
  exact ⟨rfl, rfl, rfl, rfl⟩

set_option maxHeartbeats 4000000 in
set_option maxRecDepth 100000 in
theorem implJournalAdd_c (w : World) (g : Nat) (l : List UInt8) (s k : Int) (t : List UInt8) (h : Row w g (bys l)) (he : EnvJ w) (hl : l.length ≤ 1048576) (ht : t.length ≤ 1048576) :
    Calls Tryd.prog 11 #[.agg #[.slice (some ⟨g, 0, none⟩) l.length l.length, .int .i64 s, .int .i64 k], .string ⟨t.toArray⟩] w fun e w' =>
      ∃ v, e = .returned (.tuple #[.agg #[v, .int .i64 (adS l s k t), .int .i64 (adK l s k t)], .int .i64 (adC l s k t)]) ∧ Ans w.heap.size w'.heap.size w' (bys (adL l s k t)) v ∧ Below w.heap.size w w' := by
  have H : Hid (JA w (some ⟨g, 0, none⟩) l.length l) := JA.of_row h
  have HG : Hid (Row w g (bys l)) := h
  have HE : Hid (EnvJ w) := he
  have HRk : Hid (∀ W, Calls Tryd.prog 40 #[.string ⟨t.toArray⟩] W fun e w' => e = .returned (.bool (recB t)) ∧ w' = W) := fun W => implRecordOk_c ⟨t.toArray⟩ W (by simp [ByteArray.size, maxLen]; omega)
  have HX : Hid (∀ V, _ → _ ∧ _ ∧ _) := jbox2 w (some ⟨g, 0, none⟩) none l.length l.length 0 0 s k 0 0
  clear h he
  cases hok : jokB l s k
  · obtain ⟨e1, e2, e3, e4⟩ := ad_one (l := l) (s := s) (k := k) (t := t) (by rw [hok]; rfl)
    rw [e1, e2, e3, e4]
    have HOK : Hid (jokB l s k = false) := hok
    clear hok e1 e2 e3 e4
    go_enter Tryd.func11, Tryd.ntmps11
    go_wp2_with fail
    generalize hV : (w.alloc (.cells #[.slice (some ⟨g, 0, none⟩) l.length l.length, .int .i64 s, .int .i64 k] 24)).alloc (.cells #[.slice none 0 0, .int .i64 0, .int .i64 0] 24) = V
    obtain ⟨hr1, hr2, hb0⟩ := HX.out V hV.symm
    have HA : Hid (Row V w.heap.size [.slice (some ⟨g, 0, none⟩) l.length l.length, .int .i64 s, .int .i64 k]) := hr1
    have HR : Hid (Row V (w.heap.size + 1) [.slice none 0 0, .int .i64 0, .int .i64 0]) := hr2
    have HV : Hid (Below w.heap.size w V) := hb0
    clear hr1 hr2 hb0 hV HX
    refine (implJournalOk_c V _ l.length l s k (H.out.below HV.out) (HE.out.on HV.out) hl).mono ?_
    rintro e w1 ⟨rfl, hb⟩
    rw [HOK.out]
    have HB1 : Hid (Below w.heap.size w w1) := below_then HV.out hb
    have HA1 : Hid (Row w1 w.heap.size [.slice (some ⟨g, 0, none⟩) l.length l.length, .int .i64 s, .int .i64 k]) := HA.out.below hb
    have HR1 : Hid (Row w1 (w.heap.size + 1) [.slice none 0 0, .int .i64 0, .int .i64 0]) := HR.out.below hb
    clear hb HA HR
    have t0 := HA1.out.cell 0 _ rfl
    have t1 := HA1.out.cell 1 _ rfl
    have t2 := HA1.out.cell 2 _ rfl
    have r0 := HR1.out.cell 0 _ rfl
    have r1 := HR1.out.cell 1 _ rfl
    have r2 := HR1.out.cell 2 _ rfl
    have rf0 := HR1.out.free 0
    have rf1 := HR1.out.free 1
    have rf2 := HR1.out.free 2
    go_wp2_with fail
    have HF := fin_journal (w := w) (s := 0) (k := 0) HR1.out (⟨none, 0, rfl, .inl rfl⟩ : Ans (w.heap.size + 2) w1.heap.size w1 [] (.slice none 0 0)) (by omega) HB1.out (Nat.le_succ _) _ rfl
    generalize World.setCell _ (⟨w.heap.size + 1, 2, none⟩ : Addr) _ = F at HF ⊢
    obtain ⟨h1, h2, h3, _⟩ := HF
    have f0 := h1.cell 0 _ rfl
    have f1 := h1.cell 1 _ rfl
    have f2 := h1.cell 2 _ rfl
    refine bodyPost_ret (v := .tuple #[.agg #[.slice none 0 0, .int .i64 0, .int .i64 0], .int .i64 1]) (by simp [results, Tryd.results11, go_sem, f0, f1, f2]) rfl ?_
    exact ⟨_, rfl, ⟨none, 0, rfl, .inl rfl⟩, h3⟩
  · have HOK : Hid (jokB l s k = true) := hok
    cases hrc : recB t
    · obtain ⟨e1, e2, e3, e4⟩ := ad_one (l := l) (s := s) (k := k) (t := t) (by rw [hok, hrc]; rfl)
      rw [e1, e2, e3, e4]
      rw [hrc] at HRk
      clear hok e1 e2 e3 e4 hrc
      go_enter Tryd.func11, Tryd.ntmps11
      go_wp2_with fail
      generalize hV : (w.alloc (.cells #[.slice (some ⟨g, 0, none⟩) l.length l.length, .int .i64 s, .int .i64 k] 24)).alloc (.cells #[.slice none 0 0, .int .i64 0, .int .i64 0] 24) = V
      obtain ⟨hr1, hr2, hb0⟩ := HX.out V hV.symm
      have HA : Hid (Row V w.heap.size [.slice (some ⟨g, 0, none⟩) l.length l.length, .int .i64 s, .int .i64 k]) := hr1
      have HR : Hid (Row V (w.heap.size + 1) [.slice none 0 0, .int .i64 0, .int .i64 0]) := hr2
      have HV : Hid (Below w.heap.size w V) := hb0
      clear hr1 hr2 hb0 hV HX
      refine (implJournalOk_c V _ l.length l s k (H.out.below HV.out) (HE.out.on HV.out) hl).mono ?_
      rintro e w1 ⟨rfl, hb⟩
      rw [HOK.out]
      have HB1 : Hid (Below w.heap.size w w1) := below_then HV.out hb
      have HA1 : Hid (Row w1 w.heap.size [.slice (some ⟨g, 0, none⟩) l.length l.length, .int .i64 s, .int .i64 k]) := HA.out.below hb
      have HR1 : Hid (Row w1 (w.heap.size + 1) [.slice none 0 0, .int .i64 0, .int .i64 0]) := HR.out.below hb
      clear hb HA HR
      go_wp2_with fail
      refine (HRk.out _).mono ?_
      rintro e w2 ⟨rfl, rfl⟩
      have t0 := HA1.out.cell 0 _ rfl
      have t1 := HA1.out.cell 1 _ rfl
      have t2 := HA1.out.cell 2 _ rfl
      have r0 := HR1.out.cell 0 _ rfl
      have r1 := HR1.out.cell 1 _ rfl
      have r2 := HR1.out.cell 2 _ rfl
      have rf0 := HR1.out.free 0
      have rf1 := HR1.out.free 1
      have rf2 := HR1.out.free 2
      go_wp2_with fail
      have HF := fin_journal (w := w) (s := 0) (k := 0) HR1.out (⟨none, 0, rfl, .inl rfl⟩ : Ans (w.heap.size + 2) w2.heap.size w2 [] (.slice none 0 0)) (by omega) HB1.out (Nat.le_succ _) _ rfl
      generalize World.setCell _ (⟨w.heap.size + 1, 2, none⟩ : Addr) _ = F at HF ⊢
      obtain ⟨h1, h2, h3, _⟩ := HF
      have f0 := h1.cell 0 _ rfl
      have f1 := h1.cell 1 _ rfl
      have f2 := h1.cell 2 _ rfl
      refine bodyPost_ret (v := .tuple #[.agg #[.slice none 0 0, .int .i64 0, .int .i64 0], .int .i64 1]) (by simp [results, Tryd.results11, go_sem, f0, f1, f2]) rfl ?_
      exact ⟨_, rfl, ⟨none, 0, rfl, .inl rfl⟩, h3⟩
    · obtain ⟨p1, p2, p3, p4, _⟩ := jok_parts hok
      have hrd := rd_le l
      have ht2 : t.length ≤ 200 := by
        have := hrc
        unfold recB at this
        simp only [Bool.and_eq_true, decide_eq_true_eq] at this
        exact this.2.2
      have hwk : IntKind.i64.wrap (k + 1) = k + 1 := by rw [IntKind.wrap_i64]; omega
      have hnl : (numL k).length ≤ 10 := by
        have := hd_len (rdR l).1.length
        rw [hdL, p4, List.length_append] at this
        simp at this
        omega
      have hrl : (recL k t).length = (numL k).length + t.length + 2 := by simp [recL]; omega
      have hboth : (jokB l s k && recB t) = true := by rw [hok, hrc]; rfl
      rw [hrc] at HRk
      have HLn : Hid (∀ (W : World) (bk : Nat), Row W bk [.string ⟨(numL k).toArray⟩, .string ⟨t.toArray⟩] → Calls Tryd.prog 41 #[.slice (some ⟨bk, 0, none⟩) 2 2] W fun e w' => e = .returned (.string ⟨(recL k t).toArray⟩) ∧ Below W.heap.size W w') := fun W bk hW => line_two bk (numL k) t (by omega) (by omega) W hW
      have HNm : Hid (∀ W, EnvJ W → Calls Tryd.prog 42 #[.int .i64 k] W fun e w' => e = .returned (.string ⟨(numL k).toArray⟩) ∧ Below W.heap.size W w') := fun W hW => implNumText_c k W hW.1
      clear hok hrc hrd p4
      by_cases hfit : l.length + (recL k t).length ≤ 40000
      · obtain ⟨e1, e2, e3, e4⟩ := ad_yes hboth hfit
        rw [e1, e2, e3, e4]
        clear e1 e2 e3 e4 hboth
        generalize recL k t = r at hrl hfit HLn ⊢
        have hr0 : 0 < r.length := by omega
        have hr1 : r.length ≤ 1048576 := by omega
        have HFit : Hid (l.length + r.length ≤ 40000) := hfit
        clear hrl hfit
        go_enter Tryd.func11, Tryd.ntmps11
        go_wp2_with fail
        generalize hV : (w.alloc (.cells #[.slice (some ⟨g, 0, none⟩) l.length l.length, .int .i64 s, .int .i64 k] 24)).alloc (.cells #[.slice none 0 0, .int .i64 0, .int .i64 0] 24) = V
        obtain ⟨hr1, hr2, hb0⟩ := HX.out V hV.symm
        have HA : Hid (Row V w.heap.size [.slice (some ⟨g, 0, none⟩) l.length l.length, .int .i64 s, .int .i64 k]) := hr1
        have HR : Hid (Row V (w.heap.size + 1) [.slice none 0 0, .int .i64 0, .int .i64 0]) := hr2
        have HV : Hid (Below w.heap.size w V) := hb0
        clear hr1 hr2 hb0 hV HX
        refine (implJournalOk_c V _ l.length l s k (H.out.below HV.out) (HE.out.on HV.out) hl).mono ?_
        rintro e w1 ⟨rfl, hb⟩
        rw [HOK.out]
        have HB1 : Hid (Below w.heap.size w w1) := below_then HV.out hb
        have HA1 : Hid (Row w1 w.heap.size [.slice (some ⟨g, 0, none⟩) l.length l.length, .int .i64 s, .int .i64 k]) := HA.out.below hb
        have HR1 : Hid (Row w1 (w.heap.size + 1) [.slice none 0 0, .int .i64 0, .int .i64 0]) := HR.out.below hb
        clear hb HA HR
        go_wp2_with fail
        refine (HRk.out _).mono ?_
        rintro e w2 ⟨rfl, rfl⟩
        have t0 := HA1.out.cell 0 _ rfl
        have t1 := HA1.out.cell 1 _ rfl
        have t2 := HA1.out.cell 2 _ rfl
        have r0 := HR1.out.cell 0 _ rfl
        have r1 := HR1.out.cell 1 _ rfl
        have r2 := HR1.out.cell 2 _ rfl
        have rf0 := HR1.out.free 0
        have rf1 := HR1.out.free 1
        have rf2 := HR1.out.free 2
        go_wp2_with fail
        refine (HNm.out _ ((HE.out.on HB1.out))).mono ?_
        rintro e w3 ⟨rfl, hb⟩
        have HB3 : Hid (Below w.heap.size w w3) := below_then HB1.out hb
        have HA3 : Hid (Row w3 w.heap.size [.slice (some ⟨g, 0, none⟩) l.length l.length, .int .i64 s, .int .i64 k]) := HA1.out.below hb
        have HR3 : Hid (Row w3 (w.heap.size + 1) [.slice none 0 0, .int .i64 0, .int .i64 0]) := HR1.out.below hb
        clear hb t0 t1 t2 r0 r1 r2 rf0 rf1 rf2 HNm HB1 HA1 HR1
        go_wp2_with fail
        have HWd := row_fresh w3 [.string ⟨(numL k).toArray⟩, .string ⟨t.toArray⟩] 9
        have HWb : Below w3.heap.size w3 (w3.alloc (.cells #[.string ⟨(numL k).toArray⟩, .string ⟨t.toArray⟩] 9)) := low_alloc _ _
        generalize hgw : w3.alloc (.cells #[.string ⟨(numL k).toArray⟩, .string ⟨t.toArray⟩] 9) = w4 at HWd HWb
        clear hgw
        refine (HLn.out w4 _ HWd).mono ?_
        rintro e w5 ⟨rfl, hb5⟩
        have hb35 : Below w3.heap.size w3 w5 := below_then HWb hb5
        have HB5 : Hid (Below w.heap.size w w5) := below_then HB3.out hb35
        have HA5 : Hid (Row w5 w.heap.size [.slice (some ⟨g, 0, none⟩) l.length l.length, .int .i64 s, .int .i64 k]) := HA3.out.below hb35
        have HR5 : Hid (Row w5 (w.heap.size + 1) [.slice none 0 0, .int .i64 0, .int .i64 0]) := HR3.out.below hb35
        clear hb5 hb35 HWd HWb HB3 HA3 HR3 HLn
        have t0 := HA5.out.cell 0 _ rfl
        have t1 := HA5.out.cell 1 _ rfl
        have t2 := HA5.out.cell 2 _ rfl
        have r0 := HR5.out.cell 0 _ rfl
        have r1 := HR5.out.cell 1 _ rfl
        have r2 := HR5.out.cell 2 _ rfl
        have rf0 := HR5.out.free 0
        have rf1 := HR5.out.free 1
        have rf2 := HR5.out.free 2
        obtain ⟨CW, CC, hcv, hcw⟩ : ∃ (CW : World → World) (CC : World → Nat), (∀ W, (convert 9 22 (.string ⟨(r).toArray⟩)).run Tryd.prog W = .ok (.slice (some ⟨W.heap.size, 0, none⟩) (r).length (CC W)) (CW W)) ∧
            ∀ W, Below W.heap.size W (CW W) ∧ ByA (CW W) (some ⟨W.heap.size, 0, none⟩) (r) :=
          ⟨fun W => Lib.bytesWorld W 5 ⟨(r).toArray⟩, fun W => grownCap W (r).length 0 5, fun W => conv_text _ W, fun W => ⟨bw_below _ _ _, bw_bytes W _ ⟨(r).toArray⟩⟩⟩
        have HCW : Hid (∀ W, Below W.heap.size W (CW W) ∧ ByA (CW W) (some ⟨W.heap.size, 0, none⟩) (r)) := hcw
        clear hcw
        generalize hz : (⟨(r).toArray⟩ : ByteArray) = z at hcv ⊢
        have hzs : z.size = (r).length := by rw [← hz]; simp [ByteArray.size]
        have hzf : ¬ ((40000 : Int) < (l.length : Int) + (z.size : Int)) := by have := HFit.out; omega
        have hzw : IntKind.i64.wrap ((l.length : Int) + (z.size : Int)) = (l.length : Int) + (z.size : Int) := by have := HFit.out; rw [IntKind.wrap_i64]; omega
        clear hz hzs
        go_wp2_with fail
        have K5 : Hid (Kq w w.heap.size [.slice (some ⟨g, 0, none⟩) l.length l.length, .int .i64 s, .int .i64 k] w5) := ⟨HB5.out, HA5.out⟩
        have hRne : w.heap.size + 1 ≠ w.heap.size := by omega
        have HK : Hid (∀ W, Kq w w.heap.size [.slice (some ⟨g, 0, none⟩) l.length l.length, .int .i64 s, .int .i64 k] W → Kq w w.heap.size [.slice (some ⟨g, 0, none⟩) l.length l.length, .int .i64 s, .int .i64 k] W ∧ W.cell? ⟨w.heap.size, 0, none⟩ = some (.slice (some ⟨g, 0, none⟩) l.length l.length) ∧ W.cell? ⟨w.heap.size, 1, none⟩ = some (.int .i64 s) ∧ W.cell? ⟨w.heap.size, 2, none⟩ = some (.int .i64 k)) := fun W hW => ⟨hW, hW.p.cell 0 _ rfl, hW.p.cell 1 _ rfl, hW.p.cell 2 _ rfl⟩
        have hlt5 : w.heap.size + 2 ≤ w5.heap.size := HR5.out.lt
        clear t0 t1 t2 r0 r1 r2 rf0 rf1 rf2
        go_region_held (fun W => Kq w w.heap.size [.slice (some ⟨g, 0, none⟩) l.length l.length, .int .i64 s, .int .i64 k] W ∧ W.cell? ⟨w.heap.size, 0, none⟩ = some (.slice (some ⟨g, 0, none⟩) l.length l.length) ∧ W.cell? ⟨w.heap.size, 1, none⟩ = some (.int .i64 s) ∧ W.cell? ⟨w.heap.size, 2, none⟩ = some (.int .i64 k))
          (first | exact HK.out _ (K5.out.below (low_drew _)) | exact HK.out _ (K5.out.below (below_then (low_drew _) (HCW.out _).1)) | exact HK.out _ (K5.out.below (below_then (below_then (low_drew _) (HCW.out _).1) (low_alloc _ _))) | exact HK.out _ Kk.out | exact HK.out _ (((Kk.out.set _ 0 _ (Nat.le_succ _) hRne).set _ 1 _ (Nat.le_succ _) hRne).set _ 2 _ (Nat.le_succ _) hRne) | (trace_state; done))
          ((go_at_call 43; refine (concat_c _ _ g w5.heap.size l.length (CC w5.drew) l r (row_fresh _ [.slice (some ⟨g, 0, none⟩) l.length l.length, .slice (some ⟨w5.heap.size, 0, none⟩) r.length (CC w5.drew)] _) (H.out.bytes.below (below_then HB5.out (below_then (below_then (low_drew w5) (HCW.out w5.drew).1) (low_alloc _ _)))) ((HCW.out w5.drew).2.below (low_alloc _ _)) (by omega) hr1 hr0).mono ?_; rintro e wk ⟨v, rfl, hans, hb⟩; obtain ⟨av, cv, rfl⟩ := hans.form; have hb5 : Below w5.heap.size w5 wk := below_then (below_then (below_then (low_drew w5) (HCW.out w5.drew).1) (low_alloc _ _)) hb; have Kk : Hid (Kq w w.heap.size [.slice (some ⟨g, 0, none⟩) l.length l.length, .int .i64 s, .int .i64 k] wk) := K5.out.below hb5; have HRk : Hid (Row wk (w.heap.size + 1) [.slice none 0 0, .int .i64 0, .int .i64 0]) := HR5.out.below hb5; have HBk : Hid (Below w.heap.size w wk) := below_then HB5.out hb5; have HAn : Hid (Ans (w.heap.size + 2) wk.heap.size wk (bys (l ++ r)) (.slice av (bys (l ++ r)).length cv)) := hans.wide (Nat.le_trans hlt5 (Below.size (below_then (below_then (low_drew w5) (HCW.out w5.drew).1) (low_alloc _ _)))) (Nat.le_refl _); have r02 := HRk.out.cell 0 _ rfl; have r12 := HRk.out.cell 1 _ rfl; have r22 := HRk.out.cell 2 _ rfl; have rf02 := HRk.out.free 0; have rf12 := HRk.out.free 1; have rf22 := HRk.out.free 2; clear hans hb hb5))
        all_goals
          have HF := fin_journal (w := w) (s := s) (k := k + 1) HRk.out HAn.out (by omega) HBk.out (Nat.le_succ _) _ rfl
          generalize World.setCell _ (⟨w.heap.size + 1, 2, none⟩ : Addr) _ = F at HF ⊢
          obtain ⟨h1, h2, h3, h4⟩ := HF
          have f0 := h1.cell 0 _ rfl
          have f1 := h1.cell 1 _ rfl
          have f2 := h1.cell 2 _ rfl
          have HL : Hid (Ans w.heap.size F.heap.size F (bys (l ++ r)) (.slice av (bys (l ++ r)).length cv) ∧ Below w.heap.size w F) := ⟨h2.wide (by omega) (by omega), h3⟩
          clear h1 h2 h3 h4 r02 r12 r22 rf02 rf12 rf22 HRk HBk HAn Kk
          go_wp2_with fail
          refine bodyPost_ret (v := .tuple #[.agg #[.slice av (bys (l ++ r)).length cv, .int .i64 s, .int .i64 (k + 1)], .int .i64 0]) (by simp [results, Tryd.results11, go_sem, f0, f1, f2]) rfl ?_
          exact ⟨_, rfl, HL.out.1, HL.out.2⟩
      · obtain ⟨e1, e2, e3, e4⟩ := ad_two hboth hfit
        rw [e1, e2, e3, e4]
        clear e1 e2 e3 e4 hboth
        generalize recL k t = r at hrl hfit HLn ⊢
        have hr0 : 0 < r.length := by omega
        have hr1 : r.length ≤ 1048576 := by omega
        have HFit : Hid (¬ l.length + r.length ≤ 40000) := hfit
        clear hrl hfit
        go_enter Tryd.func11, Tryd.ntmps11
        go_wp2_with fail
        generalize hV : (w.alloc (.cells #[.slice (some ⟨g, 0, none⟩) l.length l.length, .int .i64 s, .int .i64 k] 24)).alloc (.cells #[.slice none 0 0, .int .i64 0, .int .i64 0] 24) = V
        obtain ⟨hr1, hr2, hb0⟩ := HX.out V hV.symm
        have HA : Hid (Row V w.heap.size [.slice (some ⟨g, 0, none⟩) l.length l.length, .int .i64 s, .int .i64 k]) := hr1
        have HR : Hid (Row V (w.heap.size + 1) [.slice none 0 0, .int .i64 0, .int .i64 0]) := hr2
        have HV : Hid (Below w.heap.size w V) := hb0
        clear hr1 hr2 hb0 hV HX
        refine (implJournalOk_c V _ l.length l s k (H.out.below HV.out) (HE.out.on HV.out) hl).mono ?_
        rintro e w1 ⟨rfl, hb⟩
        rw [HOK.out]
        have HB1 : Hid (Below w.heap.size w w1) := below_then HV.out hb
        have HA1 : Hid (Row w1 w.heap.size [.slice (some ⟨g, 0, none⟩) l.length l.length, .int .i64 s, .int .i64 k]) := HA.out.below hb
        have HR1 : Hid (Row w1 (w.heap.size + 1) [.slice none 0 0, .int .i64 0, .int .i64 0]) := HR.out.below hb
        clear hb HA HR
        go_wp2_with fail
        refine (HRk.out _).mono ?_
        rintro e w2 ⟨rfl, rfl⟩
        have t0 := HA1.out.cell 0 _ rfl
        have t1 := HA1.out.cell 1 _ rfl
        have t2 := HA1.out.cell 2 _ rfl
        have r0 := HR1.out.cell 0 _ rfl
        have r1 := HR1.out.cell 1 _ rfl
        have r2 := HR1.out.cell 2 _ rfl
        have rf0 := HR1.out.free 0
        have rf1 := HR1.out.free 1
        have rf2 := HR1.out.free 2
        go_wp2_with fail
        refine (HNm.out _ ((HE.out.on HB1.out))).mono ?_
        rintro e w3 ⟨rfl, hb⟩
        have HB3 : Hid (Below w.heap.size w w3) := below_then HB1.out hb
        have HA3 : Hid (Row w3 w.heap.size [.slice (some ⟨g, 0, none⟩) l.length l.length, .int .i64 s, .int .i64 k]) := HA1.out.below hb
        have HR3 : Hid (Row w3 (w.heap.size + 1) [.slice none 0 0, .int .i64 0, .int .i64 0]) := HR1.out.below hb
        clear hb t0 t1 t2 r0 r1 r2 rf0 rf1 rf2 HNm HB1 HA1 HR1
        go_wp2_with fail
        have HWd := row_fresh w3 [.string ⟨(numL k).toArray⟩, .string ⟨t.toArray⟩] 9
        have HWb : Below w3.heap.size w3 (w3.alloc (.cells #[.string ⟨(numL k).toArray⟩, .string ⟨t.toArray⟩] 9)) := low_alloc _ _
        generalize hgw : w3.alloc (.cells #[.string ⟨(numL k).toArray⟩, .string ⟨t.toArray⟩] 9) = w4 at HWd HWb
        clear hgw
        refine (HLn.out w4 _ HWd).mono ?_
        rintro e w5 ⟨rfl, hb5⟩
        have hb35 : Below w3.heap.size w3 w5 := below_then HWb hb5
        have HB5 : Hid (Below w.heap.size w w5) := below_then HB3.out hb35
        have HA5 : Hid (Row w5 w.heap.size [.slice (some ⟨g, 0, none⟩) l.length l.length, .int .i64 s, .int .i64 k]) := HA3.out.below hb35
        have HR5 : Hid (Row w5 (w.heap.size + 1) [.slice none 0 0, .int .i64 0, .int .i64 0]) := HR3.out.below hb35
        clear hb5 hb35 HWd HWb HB3 HA3 HR3 HLn
        have t0 := HA5.out.cell 0 _ rfl
        have t1 := HA5.out.cell 1 _ rfl
        have t2 := HA5.out.cell 2 _ rfl
        have r0 := HR5.out.cell 0 _ rfl
        have r1 := HR5.out.cell 1 _ rfl
        have r2 := HR5.out.cell 2 _ rfl
        have rf0 := HR5.out.free 0
        have rf1 := HR5.out.free 1
        have rf2 := HR5.out.free 2
        generalize hz : (⟨(r).toArray⟩ : ByteArray) = z
        have hzs : z.size = (r).length := by rw [← hz]; simp [ByteArray.size]
        have hzf : (40000 : Int) < (l.length : Int) + (z.size : Int) := by have := HFit.out; omega
        have hzw : IntKind.i64.wrap ((l.length : Int) + (z.size : Int)) = (l.length : Int) + (z.size : Int) := by have := HFit.out; rw [IntKind.wrap_i64]; omega
        clear hz hzs
        go_wp2_with fail
        have HF := fin_journal (w := w) (s := 0) (k := 0) HR5.out (⟨none, 0, rfl, .inl rfl⟩ : Ans (w.heap.size + 2) w5.heap.size w5 [] (.slice none 0 0)) (by omega) HB5.out (Nat.le_succ _) _ rfl
        generalize World.setCell _ (⟨w.heap.size + 1, 2, none⟩ : Addr) _ = F at HF ⊢
        obtain ⟨h1, h2, h3, _⟩ := HF
        have f0 := h1.cell 0 _ rfl
        have f1 := h1.cell 1 _ rfl
        have f2 := h1.cell 2 _ rfl
        refine bodyPost_ret (v := .tuple #[.agg #[.slice none 0 0, .int .i64 0, .int .i64 0], .int .i64 2]) (by simp [results, Tryd.results11, go_sem, f0, f1, f2]) rfl ?_
        exact ⟨_, rfl, ⟨none, 0, rfl, .inl rfl⟩, h3⟩
end Go.Proofs.YtpdmhpcejmankaaDoor
