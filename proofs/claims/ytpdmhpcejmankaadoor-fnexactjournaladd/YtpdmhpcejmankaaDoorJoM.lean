/- JournalSync: the program's and the specification's. -/
import Derived.Test.YtpdmhpcejmankaaDoorWkJournalOk
import Derived.Deep.RegionWith
import Derived.Deep.Light
namespace Go.Proofs.YtpdmhpcejmankaaDoor
open Go.ChangeShapes Go.WideShapes Go.ChangeAt Go.RowKit
open Go.Joins (ownsRow_forms)

theorem bys_numb (l : List UInt8) : (numb l).map (Value.int .u8) = bys l := by simp [numb, bys]

theorem Ans.wide {B T B' T' : Nat} {w : World} {xs : List Value} {v : Value} (h : Ans B T w xs v) (h1 : B' ≤ B) (h2 : T ≤ T') : Ans B' T' w xs v := by
  obtain ⟨a, cap, hv, h⟩ := h
  refine ⟨a, cap, hv, ?_⟩
  rcases h with rfl | ⟨g, rfl, hg, hT, hr⟩
  · exact .inl rfl
  · exact .inr ⟨g, rfl, Nat.le_trans h1 hg, Nat.lt_of_lt_of_le hT h2, hr⟩

/-- A journal stored into the result's box. -/
theorem fin_journal {w w2 : World} {R n c' B T : Nat} {a' : Option Addr} {s k : Int} {xs : List Value} {x0 x1 x2 : Value} (hR : Row w2 R [x0, x1, x2]) (h : Ans B T w2 xs (.slice a' n c')) (hRB : R < B) (hb : Below w.heap.size w w2) (hw : w.heap.size ≤ R) :
    ∀ F, F = ((w2.setCell ⟨R, 0, none⟩ (.slice a' n c')).setCell ⟨R, 1, none⟩ (.int .i64 s)).setCell ⟨R, 2, none⟩ (.int .i64 k) → Row F R [.slice a' n c', .int .i64 s, .int .i64 k] ∧ Ans B T F xs (.slice a' n c') ∧ Below w.heap.size w F ∧ F.heap.size = w2.heap.size := by
  rintro F rfl
  refine ⟨((hR.set 0 (by simp) _).set 1 (by simp) _).set 2 (by simp) _, h.keep fun g h1 _ hr => ((hr.other R 0 _ (by omega)).other R 1 _ (by omega)).other R 2 _ (by omega), ?_⟩
  exact ⟨((hb.setCell (p := ⟨R, 0, none⟩) hw _).setCell (p := ⟨R, 1, none⟩) hw _).setCell (p := ⟨R, 2, none⟩) hw _, by simp only [World.size_setCell]⟩

/-- bytes.Clone of bytes that lie somewhere. -/
theorem clone_bytes (W : World) (a : Option Addr) (c : Nat) (l : List UInt8) (h : JA W a c l) (hl : l.length ≤ 1048576) :
    Calls Tryd.prog 48 #[.slice a l.length c] W fun e w' => ∃ v, e = .returned v ∧ Ans W.heap.size w'.heap.size w' (bys l) v ∧ Below W.heap.size W w' := by
  cases a with
  | none =>
    have hc := h.nilc rfl
    have hle := h.le
    obtain rfl : l = [] := List.eq_nil_of_length_eq_zero (by omega)
    refine (Tryd.bytes_Clone_nil 0 c W).mono ?_
    rintro e w' ⟨rfl, rfl⟩
    exact ⟨_, rfl, ⟨none, 0, rfl, .inl rfl⟩, Below.refl _ _⟩
  | some x =>
    refine (Tryd.bytes_Clone_at x l.length c (numb l) W (numb_len l) (by omega) (fun i hi => ?_)).mono ?_
    · obtain ⟨q, o, e, _, hc⟩ := h.bytes.cell i l[i] (List.getElem?_eq_getElem hi)
      cases e
      rw [add_plain, hc, numb_get l i hi]
    · rintro e w' ⟨v, rfl, hown, _, hb⟩
      rw [bys_numb] at hown
      exact ⟨v, rfl, Ans.of_owns hown, hb⟩

set_option maxHeartbeats 4000000 in
set_option maxRecDepth 100000 in
theorem implJournalSync_c (w : World) (a : Option Addr) (c : Nat) (l : List UInt8) (s k : Int) (ok : Bool) (hok : jokB l s k = ok) (h : JA w a c l) (he : EnvJ w) (hl : l.length ≤ 1048576) :
    Calls Tryd.prog 18 #[.agg #[.slice a l.length c, .int .i64 s, .int .i64 k]] w fun e w' =>
      ∃ v, e = .returned (.agg #[v, .int .i64 (bif ok then (l.length : Int) else 0), .int .i64 (bif ok then k else 0)]) ∧ Ans w.heap.size w'.heap.size w' (bys (bif ok then l else [])) v ∧ Below w.heap.size w w' := by
  have HOK : Hid (jokB l s k = ok) := hok
  have H : Hid (JA w a c l) := h
  have HE : Hid (EnvJ w) := he
  have HX : Hid (∀ V, _ → _ ∧ _ ∧ _) := jbox2 w a none l.length c 0 0 s k 0 0
  clear h he hok
  go_enter Tryd.func18, Tryd.ntmps18
  go_wp2_with fail
  generalize hV : (w.alloc (.cells #[.slice a l.length c, .int .i64 s, .int .i64 k] 24)).alloc (.cells #[.slice none 0 0, .int .i64 0, .int .i64 0] 24) = V
  obtain ⟨hr1, hr2, hb0⟩ := HX.out V hV.symm
  have HA : Hid (Row V w.heap.size [.slice a l.length c, .int .i64 s, .int .i64 k]) := hr1
  have HR : Hid (Row V (w.heap.size + 1) [.slice none 0 0, .int .i64 0, .int .i64 0]) := hr2
  have HV : Hid (Below w.heap.size w V) := hb0
  clear hr1 hr2 hb0 hV HX
  refine (implJournalOk_c V a c l s k (H.out.below HV.out) (HE.out.on HV.out) hl).mono ?_
  rintro e w1 ⟨rfl, hb⟩
  rw [HOK.out]
  have HB1 : Hid (Below w.heap.size w w1) := below_then HV.out hb
  have HA1 : Hid (Row w1 w.heap.size [.slice a l.length c, .int .i64 s, .int .i64 k]) := HA.out.below hb
  have HR1 : Hid (Row w1 (w.heap.size + 1) [.slice none 0 0, .int .i64 0, .int .i64 0]) := HR.out.below hb
  have t0 := HA1.out.cell 0 _ rfl
  have t2 := HA1.out.cell 2 _ rfl
  have r0 := HR1.out.cell 0 _ rfl
  have r1 := HR1.out.cell 1 _ rfl
  have r2 := HR1.out.cell 2 _ rfl
  have rf0 := HR1.out.free 0
  have rf1 := HR1.out.free 1
  have rf2 := HR1.out.free 2
  clear hb HA HR
  cases ok
  · have HF : Hid (∀ F, _ → _ ∧ _ ∧ _) := fin_journal (w := w) (s := 0) (k := 0) HR1.out (⟨none, 0, rfl, .inl rfl⟩ : Ans (w.heap.size + 2) w1.heap.size w1 [] (.slice none 0 0)) (by omega) HB1.out (Nat.le_succ _)
    go_wp2_with fail
    generalize hF : World.setCell _ (⟨w.heap.size + 1, 2, none⟩ : Addr) _ = F
    obtain ⟨h1, h2, h3, _⟩ := HF.out F hF.symm
    have f0 := h1.cell 0 _ rfl
    have f1 := h1.cell 1 _ rfl
    have f2 := h1.cell 2 _ rfl
    refine bodyPost_ret (v := .agg #[.slice none 0 0, .int .i64 0, .int .i64 0]) (by simp [results, Tryd.results18, go_sem, f0, f1, f2]) rfl ?_
    exact ⟨_, rfl, ⟨none, 0, rfl, .inl rfl⟩, h3⟩
  · go_wp2_with fail
    have hd : Below w1.heap.size w1 w1.drew := ⟨rfl, rfl, rfl, Nat.le_refl _, fun _ _ => rfl⟩
    have HJ : Hid (JA w1.drew a c l) := (H.out.below HB1.out).below hd
    have HJ : Hid (JA w1.drew a c l) := (H.out.below HB1.out).below hd
    have HAd : Hid (Row w1.drew w.heap.size [.slice a l.length c, .int .i64 s, .int .i64 k]) := HA1.out.below hd
    have HRd : Hid (Row w1.drew (w.heap.size + 1) [.slice none 0 0, .int .i64 0, .int .i64 0]) := HR1.out.below hd
    have HBd : Hid (Below w.heap.size w w1.drew) := below_then HB1.out hd
    clear hd HA1 HR1 HB1
    go_region_with (go_at_call 48; refine (clone_bytes w1.drew a c l HJ.out hl).mono ?_; rintro e w2 ⟨v, rfl, hans, hb2⟩; obtain ⟨av, cv, rfl⟩ := hans.form; have HAn : Hid (Ans w1.drew.heap.size w2.heap.size w2 (bys l) (.slice av (bys l).length cv)) := hans; have HA2 : Hid (Row w2 w.heap.size [.slice a l.length c, .int .i64 s, .int .i64 k]) := HAd.out.below hb2; have HR2 : Hid (Row w2 (w.heap.size + 1) [.slice none 0 0, .int .i64 0, .int .i64 0]) := HRd.out.below hb2; have HB2 : Hid (Below w.heap.size w w2) := below_then HBd.out hb2; have t02 := HA2.out.cell 0 _ rfl; have t22 := HA2.out.cell 2 _ rfl; have r02 := HR2.out.cell 0 _ rfl; have r12 := HR2.out.cell 1 _ rfl; have r22 := HR2.out.cell 2 _ rfl; have rf02 := HR2.out.free 0; have rf12 := HR2.out.free 1; have rf22 := HR2.out.free 2; clear hans hb2)
    all_goals
      have hlo : w.heap.size + 1 < w1.drew.heap.size := HRd.out.lt
      have HF := fin_journal (w := w) (s := (l.length : Int)) (k := k) HR2.out HAn.out hlo HB2.out (Nat.le_succ _) _ rfl
      generalize World.setCell _ (⟨w.heap.size + 1, 2, none⟩ : Addr) _ = F at HF ⊢
      obtain ⟨h1, h2, h3, h4⟩ := HF
      have f0 := h1.cell 0 _ rfl
      have f1 := h1.cell 1 _ rfl
      have f2 := h1.cell 2 _ rfl
      have HL : Hid (Ans w1.drew.heap.size w2.heap.size F (bys l) (.slice av (bys l).length cv) ∧ Below w.heap.size w F ∧ w2.heap.size ≤ F.heap.size) := ⟨h2, h3, by omega⟩
      clear h1 h2 h3 h4 t02 t22 r02 r12 r22 rf02 rf12 rf22 HR2 HA2 HB2 HAn
      go_wp2_with fail
      refine bodyPost_ret (v := .agg #[.slice av (bys l).length cv, .int .i64 (l.length : Int), .int .i64 k]) (by simp [results, Tryd.results18, go_sem, f0, f1, f2]) rfl ?_
      exact ⟨_, rfl, HL.out.1.wide (by omega) HL.out.2.2, HL.out.2.1⟩
end Go.Proofs.YtpdmhpcejmankaaDoor
