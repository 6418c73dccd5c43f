/- JournalOpen: the program's and the specification's. -/
import Derived.Test.YtpdmhpcejmankaaDoorJoO
namespace Go.Proofs.YtpdmhpcejmankaaDoor
open Go.ChangeShapes Go.WideShapes Go.ChangeAt Go.RowKit
open Go.Joins (ownsRow_forms)

/-- What JournalOpen makes of bytes: the bytes that it keeps, how many, and how many records. -/
def opL (l : List UInt8) : List UInt8 := bif decide (l.length ≤ 40000) then l.take (rdR l).2 else []
def opS (l : List UInt8) : Int := bif decide (l.length ≤ 40000) then ((rdR l).2 : Int) else 0
def opK (l : List UInt8) : Int := bif decide (l.length ≤ 40000) then ((rdR l).1.length : Int) else 0

theorem opL_le (l : List UInt8) (h : l.length ≤ 1048576) : (opL l).length ≤ 1048576 := by
  unfold opL
  cases decide (l.length ≤ 40000)
  · exact Nat.zero_le _
  · show (l.take _).length ≤ _
    rw [List.length_take]
    omega

theorem op_big {l : List UInt8} (h : ¬ l.length ≤ 40000) : opL l = [] ∧ opS l = 0 ∧ opK l = 0 := by
  unfold opL opS opK
  rw [decide_eq_false h]
  exact ⟨rfl, rfl, rfl⟩

theorem op_small {l : List UInt8} (h : l.length ≤ 40000) : opL l = l.take (rdR l).2 ∧ opS l = ((rdR l).2 : Int) ∧ opK l = ((rdR l).1.length : Int) := by
  unfold opL opS opK
  rw [decide_eq_true h]
  exact ⟨rfl, rfl, rfl⟩

/-- An empty journal's box. -/
theorem zbox (w : World) : Row (w.alloc (.cells #[.slice none 0 0, .int .i64 0, .int .i64 0] 24)) w.heap.size [.slice none 0 0, .int .i64 0, .int .i64 0] ∧ Below w.heap.size w (w.alloc (.cells #[.slice none 0 0, .int .i64 0, .int .i64 0] 24)) := jbox w none 0 0 0 0

set_option maxHeartbeats 4000000 in
set_option maxRecDepth 100000 in
theorem implJournalOpen_c (w : World) (a : Option Addr) (c : Nat) (l : List UInt8) (h : JA w a c l) (he : EnvJ w) (hl : l.length ≤ 1048576) :
    Calls Tryd.prog 15 #[.slice a l.length c] w fun e w' =>
      ∃ v, e = .returned (.agg #[v, .int .i64 (opS l), .int .i64 (opK l)]) ∧ Ans w.heap.size w'.heap.size w' (bys (opL l)) v ∧ Below w.heap.size w w' := by
  have H : Hid (JA w a c l) := h
  have HE : Hid (EnvJ w) := he
  have HV0 := zbox w
  have HV1 : Hid (Row (w.alloc (.cells #[.slice none 0 0, .int .i64 0, .int .i64 0] 24)) w.heap.size [.slice none 0 0, .int .i64 0, .int .i64 0] ∧ Below w.heap.size w (w.alloc (.cells #[.slice none 0 0, .int .i64 0, .int .i64 0] 24))) := HV0
  clear h he HV0
  by_cases hbig : (40000 : Int) < (l.length : Int)
  · obtain ⟨e1, e2, e3⟩ := op_big (l := l) (by omega)
    rw [e1, e2, e3]
    have f0 := HV1.out.1.cell 0 _ rfl
    have f1 := HV1.out.1.cell 1 _ rfl
    have f2 := HV1.out.1.cell 2 _ rfl
    clear e1 e2 e3
    go_enter Tryd.func15, Tryd.ntmps15
    go_wp2_with fail
    generalize w.alloc (.cells #[.slice none 0 0, .int .i64 0, .int .i64 0] 24) = V at HV1 f0 f1 f2
    refine bodyPost_ret (v := .agg #[.slice none 0 0, .int .i64 0, .int .i64 0]) (by simp [results, Tryd.results15, go_sem, f0, f1, f2]) rfl ?_
    exact ⟨_, rfl, ⟨none, 0, rfl, .inl rfl⟩, HV1.out.2⟩
  · obtain ⟨e1, e2, e3⟩ := op_small (l := l) (by omega)
    rw [e1, e2, e3]
    obtain ⟨hq1, hq2, _⟩ := rd_le l
    have HRR : Hid (∀ W, JA W a c l → EnvJ W → Calls Tryd.prog 13 #[.slice a l.length c] W fun e w' => ∃ v, e = .returned (.tuple #[v, .int .i64 ((rdR l).2 : Int)]) ∧ w'.ownsRow W.heap.size 9 1 v (rdR l).1.length (strs (rdR l).1) ∧ Below W.heap.size W w') := fun W h1 h2 => implReadRecords_c W a c l h1.bytes h1.le h1.nilc h1.old h2 hl
    clear e1 e2 e3
    generalize (rdR l).2 = q at *
    generalize (rdR l).1 = ts at *
    generalize hm : ts.length = m at *
    clear hm
    go_enter Tryd.func15, Tryd.ntmps15
    go_wp2_with fail
    generalize w.alloc (.cells #[.slice none 0 0, .int .i64 0, .int .i64 0] 24) = V at HV1
    have HR : Hid (Row V w.heap.size [.slice none 0 0, .int .i64 0, .int .i64 0]) := HV1.out.1
    have HV : Hid (Below w.heap.size w V) := HV1.out.2
    clear HV1
    refine (HRR.out V (H.out.below HV.out) (HE.out.on HV.out)).mono ?_
    rintro e w1 ⟨v, rfl, hown, hb⟩
    have HB1 : Hid (Below w.heap.size w w1) := below_then HV.out hb
    have HR1 : Hid (Row w1 w.heap.size [.slice none 0 0, .int .i64 0, .int .i64 0]) := HR.out.below hb
    obtain ⟨a2, c2, rfl⟩ := form_of_owns hown
    clear hown hb HR
    have r0 := HR1.out.cell 0 _ rfl
    have r1 := HR1.out.cell 1 _ rfl
    have r2 := HR1.out.cell 2 _ rfl
    have rf0 := HR1.out.free 0
    have rf1 := HR1.out.free 1
    have rf2 := HR1.out.free 2
    have hlc := H.out.le
    have hqc : q ≤ c := by omega
    have hqi : (q : Int) ≤ (c : Int) := by omega
    have HC : Hid (∀ W, JA W a c l → Calls Tryd.prog 48 #[.slice a q c] W fun e w' => ∃ v, e = .returned v ∧ Ans W.heap.size w'.heap.size w' (bys (l.take q)) v ∧ Below W.heap.size W w') := fun W hW => by
      have := clone_bytes W a c (l.take q) (hW.upto _) (by rw [List.length_take]; omega)
      rw [List.length_take, Nat.min_eq_left hq1] at this
      exact this
    have hlk : (l.take q).length = q := by rw [List.length_take]; omega
    go_wp2_with fail
    refine (HC.out w1 (H.out.below HB1.out)).mono ?_
    rintro e w2 ⟨v, rfl, hans, hb2⟩
    obtain ⟨av, cv, rfl⟩ := hans.form
    rw [bys_len, hlk] at hans ⊢
    have HAn : Hid (Ans w1.heap.size w2.heap.size w2 (bys (l.take q)) (.slice av q cv)) := hans
    have HR2 : Hid (Row w2 w.heap.size [.slice none 0 0, .int .i64 0, .int .i64 0]) := HR1.out.below hb2
    have HB2 : Hid (Below w.heap.size w w2) := below_then HB1.out hb2
    have hlo : w.heap.size < w1.heap.size := HR1.out.lt
    clear r0 r1 r2 rf0 rf1 rf2 hans hb2
    have r0 := HR2.out.cell 0 _ rfl
    have r1 := HR2.out.cell 1 _ rfl
    have r2 := HR2.out.cell 2 _ rfl
    have rf0 := HR2.out.free 0
    have rf1 := HR2.out.free 1
    have rf2 := HR2.out.free 2
    go_wp2_with fail
    have HF := fin_journal (w := w) (s := (q : Int)) (k := (m : Int)) HR2.out HAn.out hlo HB2.out (Nat.le_refl _) _ rfl
    generalize World.setCell _ (⟨w.heap.size, 2, none⟩ : Addr) _ = F at HF ⊢
    obtain ⟨h1, h2, h3, h4⟩ := HF
    have f0 := h1.cell 0 _ rfl
    have f1 := h1.cell 1 _ rfl
    have f2 := h1.cell 2 _ rfl
    refine bodyPost_ret (v := .agg #[.slice av q cv, .int .i64 (q : Int), .int .i64 (m : Int)]) (by simp [results, Tryd.results15, go_sem, f0, f1, f2]) rfl ?_
    exact ⟨_, rfl, h2.wide (Nat.le_of_lt hlo) (Nat.le_of_eq h4.symm), h3⟩

set_option maxHeartbeats 4000000 in
set_option maxRecDepth 100000 in
theorem specJournalOpen_c (w : World) (g : Nat) (l : List UInt8) (h : Row w g (bys l)) (hl : l.length ≤ 1048576) :
    Calls Tryd.prog 29 #[.slice (some ⟨g, 0, none⟩) l.length l.length] w fun e w' =>
      ∃ v, e = .returned (.agg #[v, .int .i64 (opS l), .int .i64 (opK l)]) ∧ Ans w.heap.size w'.heap.size w' (bys (opL l)) v ∧ Below w.heap.size w w' := by
  have HG : Hid (Row w g (bys l)) := h
  have HV0 := zbox w
  have HV1 : Hid (Row (w.alloc (.cells #[.slice none 0 0, .int .i64 0, .int .i64 0] 24)) w.heap.size [.slice none 0 0, .int .i64 0, .int .i64 0] ∧ Below w.heap.size w (w.alloc (.cells #[.slice none 0 0, .int .i64 0, .int .i64 0] 24))) := HV0
  clear h HV0
  by_cases hbig : (40000 : Int) < (l.length : Int)
  · obtain ⟨e1, e2, e3⟩ := op_big (l := l) (by omega)
    rw [e1, e2, e3]
    have f0 := HV1.out.1.cell 0 _ rfl
    have f1 := HV1.out.1.cell 1 _ rfl
    have f2 := HV1.out.1.cell 2 _ rfl
    clear e1 e2 e3
    go_enter Tryd.func29, Tryd.ntmps29
    go_wp2_with fail
    generalize w.alloc (.cells #[.slice none 0 0, .int .i64 0, .int .i64 0] 24) = V at HV1 f0 f1 f2
    refine bodyPost_ret (v := .agg #[.slice none 0 0, .int .i64 0, .int .i64 0]) (by simp [results, Tryd.results29, go_sem, f0, f1, f2]) rfl ?_
    exact ⟨_, rfl, ⟨none, 0, rfl, .inl rfl⟩, HV1.out.2⟩
  · obtain ⟨e1, e2, e3⟩ := op_small (l := l) (by omega)
    rw [e1, e2, e3]
    obtain ⟨hq1, hq2, _⟩ := rd_le l
    have HRR : Hid (∀ W, Row W g (bys l) → Calls Tryd.prog 14 #[.slice (some ⟨g, 0, none⟩) l.length l.length] W fun e w' => ∃ v, e = .returned (.tuple #[v, .int .i64 ((rdR l).2 : Int)]) ∧ w'.ownsRow W.heap.size 9 1 v (rdR l).1.length (strs (rdR l).1) ∧ Below W.heap.size W w') := fun W h1 => specReadRecords_c W (some ⟨g, 0, none⟩) l.length l (ByA.of_row h1) (Nat.le_refl _) hl
    clear e1 e2 e3
    generalize (rdR l).2 = q at *
    generalize (rdR l).1 = ts at *
    generalize hm : ts.length = m at *
    clear hm
    go_enter Tryd.func29, Tryd.ntmps29
    go_wp2_with fail
    generalize w.alloc (.cells #[.slice none 0 0, .int .i64 0, .int .i64 0] 24) = V at HV1
    have HR : Hid (Row V w.heap.size [.slice none 0 0, .int .i64 0, .int .i64 0]) := HV1.out.1
    have HV : Hid (Below w.heap.size w V) := HV1.out.2
    clear HV1
    refine (HRR.out V (HG.out.below HV.out)).mono ?_
    rintro e w1 ⟨v, rfl, hown, hb⟩
    have HB1 : Hid (Below w.heap.size w w1) := below_then HV.out hb
    have HR1 : Hid (Row w1 w.heap.size [.slice none 0 0, .int .i64 0, .int .i64 0]) := HR.out.below hb
    have HG1 : Hid (Row w1 g (bys l)) := HG.out.below HB1.out
    obtain ⟨a2, c2, rfl⟩ := form_of_owns hown
    clear hown hb HR
    have hqi : (q : Int) ≤ (l.length : Int) := by omega
    have hlk : (bys (l.take q)).length = q := by rw [bys_len, List.length_take]; omega
    obtain ⟨i0, hi, hz0, hz1, hz2⟩ := info_parts infoByte
    have HW0 : Hid (Row (w1.alloc (.cells #[] 5)) g (bys l)) := HG1.out.below (low_alloc _ _)
    have HN : Hid (∀ (W : World), Row W g (bys l) → ∀ j u, (bys (l.take q))[j]? = some u → W.cell? ((⟨g, 0, none⟩ : Addr).add j) = some u) := fun W hW j u hj => by
      rw [add_plain, Nat.zero_add]
      rw [bys_get, List.getElem?_take] at hj
      split at hj
      · exact hW.cell j u (by rw [bys_get]; exact hj)
      · cases hj
    have H1c : Hid (∀ u ∈ bys (l.take q), u.oneCell' = true) := fun u hu => by obtain ⟨b, _, rfl⟩ := List.mem_map.1 hu; rfl
    have hlo : w.heap.size < w1.heap.size := HR1.out.lt
    go_wp2_with (at_builtin; refine wpList_append_own _ rfl _ _ 22 rfl w1.heap.size 5 i0 (.int .u8 0) 1 1 Tryd.underlying22 hi hz0 hz1 hz2 rfl (by decide) _ _ _ rfl (World.ownsRow_made w1 #[] 0 (Nat.le_refl _) (by decide) rfl) ⟨g, 0, none⟩ q l.length (bys (l.take q)) rfl (by rw [hlk]; omega) (HN.out _ HW0.out) H1c.out (by unfold maxLen; omega) (by omega) (by simp) ?_)
    intro v' w2 hown hgrow hnil
    rcases ownsRow_forms hown with ⟨rfl, _⟩ | ⟨gk, ck, rfl⟩
    · exact (hnil rfl).elim
    · have hRne : w.heap.size ≠ w1.heap.size := by omega
      have HAn : Hid (Ans w1.heap.size w2.heap.size w2 (bys (l.take q)) (.slice (some ⟨gk, 0, none⟩) q ck)) := Ans.of_owns (by simpa using hown)
      have HR2 : Hid (Row w2 w.heap.size [.slice none 0 0, .int .i64 0, .int .i64 0]) := (HR1.out.below (low_alloc _ _)).far hgrow (fun e => hRne (Option.some.inj e))
      have HB2 : Hid (Below w.heap.size w w2) := (HB1.out.alloc HB1.out.size _).grown hgrow (by simp; omega) (fun x hx => by simp [Value.ownBlock] at hx; omega)
      clear hown hgrow hnil
      have r0 := HR2.out.cell 0 _ rfl
      have r1 := HR2.out.cell 1 _ rfl
      have r2 := HR2.out.cell 2 _ rfl
      have rf0 := HR2.out.free 0
      have rf1 := HR2.out.free 1
      have rf2 := HR2.out.free 2
      go_wp2_with fail
      have HF := fin_journal (w := w) (s := (q : Int)) (k := (m : Int)) HR2.out HAn.out hlo HB2.out (Nat.le_refl _) _ rfl
      generalize World.setCell _ (⟨w.heap.size, 2, none⟩ : Addr) _ = F at HF ⊢
      obtain ⟨h1, h2, h3, h4⟩ := HF
      have f0 := h1.cell 0 _ rfl
      have f1 := h1.cell 1 _ rfl
      have f2 := h1.cell 2 _ rfl
      refine bodyPost_ret (v := .agg #[.slice (some ⟨gk, 0, none⟩) q ck, .int .i64 (q : Int), .int .i64 (m : Int)]) (by simp [results, Tryd.results29, go_sem, f0, f1, f2]) rfl ?_
      exact ⟨_, rfl, h2.wide (Nat.le_of_lt hlo) (Nat.le_of_eq h4.symm), h3⟩
end Go.Proofs.YtpdmhpcejmankaaDoor
