/- FnExactVecSub: for every two vectors the program's VecSub answers as the specification's; no condition. -/
import Derived.Test.YtiblegdhaiajnaiVecH
import Derived.Test.YtiblegdhaiajnaiHeld
import Derived.Deep.DeepCutAuto
import Derived.Deep.Light
import Derived.ProofKit
import Derived.OpenShut
import Derived.Lib.SmallJoins
namespace Go.Proofs.Ytiblegdhaiajnai
namespace LawVecSub
open Go.ChangeShapes Go.WideShapes Go.ChangeAt Go.RowKit Go.Joins

theorem own : ownKnob Try.prog.godebug = none := by kernel_rfl
theorem cellsVec : Try.prog.cellsOf 23 = 3 := by kernel_rfl

set_option maxHeartbeats 2000000 in
theorem walk (a b c x y z : Int) (w : World) :
    Calls Try.prog 6 #[.agg #[.int .i64 a, .int .i64 b, .int .i64 c], .agg #[.int .i64 x, .int .i64 y, .int .i64 z]] w fun e w' => e = .returned (.bool true) ∧ Below w.heap.size w w' := by
  obtain ⟨r0, r1, r2, k, hs, hi⟩ := both_sub a b c x y z
  have Hs : Hid (∀ w, Calls Try.prog 16 #[.agg #[.int .i64 a, .int .i64 b, .int .i64 c], .agg #[.int .i64 x, .int .i64 y, .int .i64 z]] w fun e w' => e = .returned (.tuple #[.agg #[.int .i64 r0, .int .i64 r1, .int .i64 r2], .bool k]) ∧ Below w.heap.size w w') := hs
  have Hi : Hid (∀ w, Calls Try.prog 17 #[.agg #[.int .i64 a, .int .i64 b, .int .i64 c], .agg #[.int .i64 x, .int .i64 y, .int .i64 z]] w fun e w' => e = .returned (.tuple #[.agg #[.int .i64 r0, .int .i64 r1, .int .i64 r2], .bool k]) ∧ Below w.heap.size w w') := hi
  clear hs hi
  go_enter Try.func6, Try.ntmps6
  go_wp2_with fail
  generalize hV : ((w.alloc (.cells #[.int .i64 a, .int .i64 b, .int .i64 c] 23)).alloc (.cells #[.int .i64 x, .int .i64 y, .int .i64 z] 23)) = V
  have HB : Hid (Below w.heap.size w V) := by subst hV; show Below _ _ _; go_grown
  have F1 : Hid (V.cell? ⟨w.heap.size, 0, none⟩ = some (.int .i64 a) ∧ V.cell? ⟨w.heap.size, 1, none⟩ = some (.int .i64 b) ∧ V.cell? ⟨w.heap.size, 2, none⟩ = some (.int .i64 c)) := by subst hV; show _ ∧ _; simp [go_sem]
  have F2 : Hid (V.cell? ⟨w.heap.size + 1, 0, none⟩ = some (.int .i64 x) ∧ V.cell? ⟨w.heap.size + 1, 1, none⟩ = some (.int .i64 y) ∧ V.cell? ⟨w.heap.size + 1, 2, none⟩ = some (.int .i64 z)) := by subst hV; show _ ∧ _; simp [go_sem]
  have s1 : w.heap.size < V.heap.size := by subst hV; go_size
  have s2 : w.heap.size + 1 < V.heap.size := by subst hV; go_size
  clear hV
  have H0 : Hid (Below V.heap.size V V) := Below.refl _ _
  have z0 : V.heap.size ≤ V.heap.size := Nat.le_refl _
  go_cut [5, 6] (fun p q wc => ∃ blk : Nat, p = .pointer (some ⟨blk, 0, none⟩) ∧ q = .bool k ∧ Below V.heap.size V wc ∧ blk < wc.heap.size ∧ wc.cell? ⟨blk, 0, none⟩ = some (.int .i64 r0) ∧ wc.cell? ⟨blk, 1, none⟩ = some (.int .i64 r1) ∧ wc.cell? ⟨blk, 2, none⟩ = some (.int .i64 r2))
  case first =>
    go_region_held3 (fun w' => Below V.heap.size V w' ∧ V.heap.size ≤ w'.heap.size ∧ w'.cell? ⟨w.heap.size, 0, none⟩ = some (.int .i64 a) ∧ w'.cell? ⟨w.heap.size, 1, none⟩ = some (.int .i64 b) ∧ w'.cell? ⟨w.heap.size, 2, none⟩ = some (.int .i64 c) ∧ w'.cell? ⟨w.heap.size + 1, 0, none⟩ = some (.int .i64 x) ∧ w'.cell? ⟨w.heap.size + 1, 1, none⟩ = some (.int .i64 y) ∧ w'.cell? ⟨w.heap.size + 1, 2, none⟩ = some (.int .i64 z)) ((go_split_ands; refine held_gen s1 s2 F1.out F2.out ?_; first | (exact Hid.out (by with_reducible assumption)) | (exact behind_alloc (Hid.out (by with_reducible assumption)) _) | (with_reducible assumption) | (exact behind (by with_reducible assumption) (by with_reducible assumption)) | (exact behind_alloc (by with_reducible assumption) _) | (repeat (refine Below.setCell ?_ (by with_reducible assumption) _)); (exact Hid.out (by with_reducible assumption)) | (go_grown; done)))
      (first
      | (go_at_call 9; refine (toVec_c _ _ _ _).mono ?_; rintro e wk ⟨rfl, hbk⟩; have Bk : Hid (Below V.heap.size V wk) := behind hbk (And.left (by with_reducible assumption)); have zk := Bk.out.size; (first | have C := behind hbk (by with_reducible assumption) | have C := hbk); obtain ⟨hck, hfk, hzk⟩ := bfacts C)
      | (go_at_call 16; refine (Hs.out _).mono ?_; rintro e wk ⟨rfl, hbk⟩; have Bk : Hid (Below V.heap.size V wk) := behind hbk (And.left (by with_reducible assumption)); have zk := Bk.out.size; (first | have C := behind hbk (by with_reducible assumption) | have C := hbk); obtain ⟨hck, hfk, hzk⟩ := bfacts C))
    all_goals
      go_split_ands; go_wp2_with fail; go_meet
      case rel =>
        refine ⟨_, rfl, rfl, by with_reducible assumption, ?_, ?_, ?_, ?_⟩
        all_goals go_light
        all_goals first | (simp [*]; done) | (simp [*, go_sem]; done) | go_cell
  case rest =>
    obtain ⟨blk, rfl, rfl, hb, hlt, d0, d1, d2⟩ := hcut
    have D : Hid (wc.cell? ⟨blk, 0, none⟩ = some (.int .i64 r0) ∧ wc.cell? ⟨blk, 1, none⟩ = some (.int .i64 r1) ∧ wc.cell? ⟨blk, 2, none⟩ = some (.int .i64 r2)) := ⟨d0, d1, d2⟩
    obtain ⟨_, hz, c0, c1, c2, c3, c4, c5⟩ := held_gen s1 s2 F1.out F2.out hb
    have G1 : Hid (wc.cell? ⟨w.heap.size, 0, none⟩ = some (.int .i64 a) ∧ wc.cell? ⟨w.heap.size, 1, none⟩ = some (.int .i64 b) ∧ wc.cell? ⟨w.heap.size, 2, none⟩ = some (.int .i64 c)) := ⟨c0, c1, c2⟩
    have G2 : Hid (wc.cell? ⟨w.heap.size + 1, 0, none⟩ = some (.int .i64 x) ∧ wc.cell? ⟨w.heap.size + 1, 1, none⟩ = some (.int .i64 y) ∧ wc.cell? ⟨w.heap.size + 1, 2, none⟩ = some (.int .i64 z)) := ⟨c3, c4, c5⟩
    have t1 : w.heap.size < wc.heap.size := by omega
    have t2 : w.heap.size + 1 < wc.heap.size := by omega
    have HC : Hid (Below w.heap.size w wc) := below_then HB.out hb
    have H1 : Hid (Below wc.heap.size wc wc) := Below.refl _ _
    have z1 : wc.heap.size ≤ wc.heap.size := Nat.le_refl _
    clear c0 c1 c2 c3 c4 c5 d0 d1 d2 s1 s2 F1 F2 HB hb H0 z0 hz Hs
    go_wp2_with fail
    go_cut [7, 8] (fun p q wd => ∃ blk2 : Nat, p = .pointer (some ⟨blk2, 0, none⟩) ∧ q = .bool k ∧ Below wc.heap.size wc wd ∧ blk2 < wd.heap.size ∧ wd.cell? ⟨blk2, 0, none⟩ = some (.int .i64 r0) ∧ wd.cell? ⟨blk2, 1, none⟩ = some (.int .i64 r1) ∧ wd.cell? ⟨blk2, 2, none⟩ = some (.int .i64 r2))
    case first =>
      go_region_held3 (fun w' => Below wc.heap.size wc w' ∧ wc.heap.size ≤ w'.heap.size ∧ w'.cell? ⟨w.heap.size, 0, none⟩ = some (.int .i64 a) ∧ w'.cell? ⟨w.heap.size, 1, none⟩ = some (.int .i64 b) ∧ w'.cell? ⟨w.heap.size, 2, none⟩ = some (.int .i64 c) ∧ w'.cell? ⟨w.heap.size + 1, 0, none⟩ = some (.int .i64 x) ∧ w'.cell? ⟨w.heap.size + 1, 1, none⟩ = some (.int .i64 y) ∧ w'.cell? ⟨w.heap.size + 1, 2, none⟩ = some (.int .i64 z)) ((go_split_ands; refine held_gen t1 t2 G1.out G2.out ?_; first | (exact Hid.out (by with_reducible assumption)) | (exact behind_alloc (Hid.out (by with_reducible assumption)) _) | (with_reducible assumption) | (exact behind (by with_reducible assumption) (by with_reducible assumption)) | (exact behind_alloc (by with_reducible assumption) _) | (repeat (refine Below.setCell ?_ (by with_reducible assumption) _)); (exact Hid.out (by with_reducible assumption)) | (go_grown; done)))
        (first
        | (go_at_call 9; refine (toVec_c _ _ _ _).mono ?_; rintro e wk ⟨rfl, hbk⟩; have Bk : Hid (Below wc.heap.size wc wk) := behind hbk (And.left (by with_reducible assumption)); have zk := Bk.out.size; (first | have C := behind hbk (by with_reducible assumption) | have C := hbk); obtain ⟨hck, hfk, hzk⟩ := bfacts C)
        | (go_at_call 17; refine (Hi.out _).mono ?_; rintro e wk ⟨rfl, hbk⟩; have Bk : Hid (Below wc.heap.size wc wk) := behind hbk (And.left (by with_reducible assumption)); have zk := Bk.out.size; (first | have C := behind hbk (by with_reducible assumption) | have C := hbk); obtain ⟨hck, hfk, hzk⟩ := bfacts C))
      all_goals
        go_split_ands; go_wp2_with fail; go_meet
        case rel =>
          refine ⟨_, rfl, rfl, by with_reducible assumption, ?_, ?_, ?_, ?_⟩
          all_goals go_light
          all_goals first | (simp [*]; done) | (simp [*, go_sem]; done) | go_cell
    case rest =>
      obtain ⟨blk2, rfl, rfl, hb2, hlt2, e0, e1, e2⟩ := hcut
      obtain ⟨d0, d1, d2⟩ := kept3 hb2 blk _ _ _ hlt D.out
      have HE : Hid (Below w.heap.size w wc) := below_then HC.out hb2
      clear hb2 hlt hlt2 G1 G2 t1 t2 H1 z1 Hi D HC
      go_wp2_with fail
      refine (eqVec_c r0 r1 r2 r0 r1 r2 _).mono ?_
      rintro e we ⟨rfl, hbe⟩
      rw [show (r0 == r0 && r1 == r1 && r2 == r2) = true by simp]
      go_wp2
      go_ret
      exact ⟨rfl, below_then HE.out hbe⟩

set_option maxRecDepth 100000 in
theorem lifted (os : Os) (started : os.Started) (H : Type) (enc : TypeId × Value → H) :
    ReturnsInHanded {} Try.checked os 6 .any (Rows.fnExactVecSubSpec.pre6 enc Try.prog Try.f6 Rows.fnExactVecSubRow.domain false) (Rows.fnExactVecSubSpec.post enc Try.prog Try.f6 false true false false) := by
  refine returnsInHanded_of_change (C := Try.checked) own started (by kernel_rfl) Try.func6
    (ChangeSpec.witness6 (enc := enc) (C := Try.checked) false ⟨#[], #[.agg #[.int .i64 0, .int .i64 0, .int .i64 0], .agg #[.int .i64 0, .int .i64 0, .int .i64 0]], []⟩ 8 (by kernel_rfl) (by kernel_rfl) (by kernel_rfl) (by kernel_rfl)) ?_
  intro W base args ds gs before hval0 hW _ _
  have hval : ∀ (j : Nat) t v, Try.f6.params[j]? = some t → args[j]? = some v → Value.okWide Try.prog W .any base t v := hval0
  have hW' := hW
  obtain ⟨p, q, hA0, hV, rfl, _, _⟩ := hW
  have hA : DataW.TrodAll enc Try.prog W 0 (fun _ => true) true Try.f6.params.toList args.toList ds p := hA0
  rw [Try.params6] at hA hval
  obtain ⟨v0, v1, d0, d1, p0, p1, rfl, rfl, rfl, h0, h1⟩ := trodAll_two hA
  obtain ⟨rfl, rfl⟩ := trodVars_none hV
  obtain ⟨x0, x1, x2, y0, y1, y2, m, rfl, rfl, rfl, hy0, hy1, hy2⟩ := open_agg3 Try.underlying23 (by kernel_rfl) cellsVec (hval 0 23 v0 rfl rfl) h0
  obtain ⟨a, e0, rfl, wa⟩ := DataW.trod_int Try.underlying3 hy0
  obtain ⟨b, e1, rfl, wb⟩ := DataW.trod_int Try.underlying3 hy1
  obtain ⟨c, e2, rfl, wc⟩ := DataW.trod_int Try.underlying3 hy2
  simp at e0 e1 e2
  subst e0 e1 e2
  obtain ⟨x0, x1, x2, y0, y1, y2, m', rfl, rfl, rfl, hy0', hy1', hy2'⟩ := open_agg3 Try.underlying23 (by kernel_rfl) cellsVec (hval 1 23 v1 rfl rfl) h1
  obtain ⟨x, e0, rfl, wx⟩ := DataW.trod_int Try.underlying3 hy0'
  obtain ⟨y, e1, rfl, wy⟩ := DataW.trod_int Try.underlying3 hy1'
  obtain ⟨z, e2, rfl, wz⟩ := DataW.trod_int Try.underlying3 hy2'
  simp at e0 e1 e2
  subst e0 e1 e2
  clear hA0 hval0
  simp only [List.append_nil] at hW'
  have reads : ∀ (a b c : Int) (_ : (Lit.int .i64 a).wf = true) (_ : (Lit.int .i64 b).wf = true) (_ : (Lit.int .i64 c).wf = true) (W' : World) (sp : Nat → Bool), DataW.Trod enc Try.prog W' 0 sp true 23 (.agg #[.int .i64 a, .int .i64 b, .int .i64 c]) (.agg [.lit (.int .i64 a), .lit (.int .i64 b), .lit (.int .i64 c)]) [] := fun a b c wa wb wc W' sp =>
    shut_agg3 (y0 := (.lit (.int .i64 a), [])) (y1 := (.lit (.int .i64 b), [])) (y2 := (.lit (.int .i64 c), [])) Try.underlying23 (by kernel_rfl) cellsVec ⟨1, by simp [DataW.trod, Try.underlying3, wa]⟩ ⟨1, by simp [DataW.trod, Try.underlying3, wb]⟩ ⟨1, by simp [DataW.trod, Try.underlying3, wc]⟩
  refine (walk a b c x y z W).mono fun e W' ⟨he, hg⟩ => ?_
  subst he
  exact ⟨_, rfl, _, _, _, [], [], [], hW', trodAll_mk1 (shut_bool Try.underlying4 _), trodAll_mk2 (reads a b c wa wb wc _ _) (reads x y z wx wy wz _ _), rfl, hg.frame _, fun h => by cases h⟩
end LawVecSub

/-- For every two vectors: the law returns true, and the vectors read as they did. -/
theorem fnExactVecSub_holds : Rows.FnExactVecSubSaid :=
  OpenClaim.holds_of_wide 6 Try.f6 rfl rfl rfl rfl rfl rfl rfl ⟨rfl, rfl, rfl, rfl, rfl⟩ rfl rfl rfl rfl rfl (by kernel_rfl) Try.func6 (by kernel_rfl)
    (of_decide_eq_true (by kernel_rfl)) (by unfold Func.isWrapper; rw [if_neg (of_decide_eq_false (by kernel_rfl))]; exact ⟨rfl, rfl⟩)
    (fun os started H enc _ => LawVecSub.lifted os started H enc)
#print axioms fnExactVecSub_holds
end Go.Proofs.Ytiblegdhaiajnai
