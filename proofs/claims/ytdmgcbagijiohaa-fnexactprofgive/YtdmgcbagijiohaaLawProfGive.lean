/- FnExactProfGive: for every profile, times and vector the program's ProfGive answers as the specification's, and its answer owns its memory; no condition. -/
import Derived.Test.YtdmgcbagijiohaaTkI
import Derived.Test.YtdmgcbagijiohaaPtP
import Derived.Test.YtdmgcbagijiohaaFinB
import Derived.Deep.DeepCutAuto
import Derived.Deep.RegionWith
import Derived.ProofKit
import Derived.OpenShut
namespace Go.Proofs.Ytdmgcbagijiohaa
namespace LawProfGive
open Go.ChangeShapes Go.WideShapes Go.ChangeAt Go.RowKit Go.Joins
set_option maxRecDepth 100000 in
set_option maxHeartbeats 8000000 in
theorem walk (b : Option Addr) (d : Nat) (ns : List Nd) (f u : Int) (v : Nd) (hn : ns.length ≤ maxLen) (w : World) (h' : Sq w b (flat ns)) :
    Calls Try.prog 5 #[.agg #[.slice b ns.length d], .int .i64 f, .int .i64 u, .agg #[.int .i64 v.a, .int .i64 v.b, .int .i64 v.c]] w fun e w' => e = .returned (.bool true) ∧ Below w.heap.size w w' := by
  have H' : Hid (Sq w b (flat ns)) := h'
  have Hn : Hid (ns.length ≤ maxLen) := hn
  have HCS : Hid (∀ (a' : Option Addr) (W : World), Sq W a' (flat ns) → Calls Try.prog 21 #[.agg #[.slice a' ns.length ns.length], .int .i64 f, .int .i64 u, .agg #[.int .i64 v.a, .int .i64 v.b, .int .i64 v.c]] W (RetP W ((tkR true v ns f u).getD []) (tkR true v ns f u).isSome)) := fun a' W hs => specProfGive_c a' _ ns f u v W hs
  have HCI : Hid (∀ (a' : Option Addr) (W : World), Sq W a' (flat ns) → Calls Try.prog 12 #[.agg #[.slice a' ns.length ns.length], .int .i64 f, .int .i64 u, .agg #[.int .i64 v.a, .int .i64 v.b, .int .i64 v.c]] W (RetP W ((tkR true v ns f u).getD []) (tkR true v ns f u).isSome)) := fun a' W hs => implProfGive_c a' ns.length ns f u v W hs
  have hrl : ((tkR true v ns f u).getD []).length ≤ 1048576 := by have := tk_len (add := true) (v := v) (ns := ns) (f := f) (u := u); omega
  generalize (tkR true v ns f u).getD [] = r at HCS HCI hrl
  generalize (tkR true v ns f u).isSome = k at HCS HCI
  clear h' hn
  go_enter Try.func5, Try.ntmps5
  go_wp2_with fail
  generalize hV : (w.alloc (.cells #[.slice b ns.length d] 41)).alloc (.cells #[.int .i64 v.a, .int .i64 v.b, .int .i64 v.c] 42) = V
  have HA : Hid (Row V w.heap.size [.slice b ns.length d]) := by subst hV; exact (row_fresh w [.slice b ns.length d] 41).below (low_alloc _ _)
  have HW : Hid (Row V (w.heap.size + 1) [.int .i64 v.a, .int .i64 v.b, .int .i64 v.c]) := by
    subst hV
    have h := row_fresh (w.alloc (.cells #[.slice b ns.length d] 41)) [.int .i64 v.a, .int .i64 v.b, .int .i64 v.c] 42
    rw [show (w.alloc (.cells #[.slice b ns.length d] 41)).heap.size = w.heap.size + 1 by simp [go_sem]] at h
    exact h
  have HV : Hid (Below w.heap.size w V) := by subst hV; exact behind_alloc (low_alloc _ _) _
  clear hV
  have HS0 : Hid (Sq V b (flat ns)) := H'.out.below HV.out
  clear H'
  generalize w.heap.size = A at HA HW
  refine (szProf_c b ns.length d Hn.out 1048576 (by omega) (by omega) V).mono ?_
  rintro e w1 ⟨rfl, hb⟩
  have B1 : Hid (Below V.heap.size V w1) := hb
  have t0 := (HA.out.below hb).cell 0 _ rfl
  clear hb
  by_cases hz : szP ns.length 1048576 < 0
  · generalize szP ns.length 1048576 = z at hz
    go_wp2_with fail
    go_ret
    exact ⟨rfl, below_then HV.out B1.out⟩
  · have hn := (szp_yes (Int.le_refl _) hz).1
    generalize szP ns.length 1048576 = z at hz
    clear t0
    go_wp2_with fail
    have HSU : Hid (Sq w1 b (flat ns)) := HS0.out.below B1.out
    have HAU : Hid (Row w1 A [.slice b ns.length d]) := HA.out.below B1.out
    have HWU : Hid (Row w1 (A + 1) [.int .i64 v.a, .int .i64 v.b, .int .i64 v.c]) := HW.out.below B1.out
    have hAV := HA.out.lt
    have hWV := HW.out.lt
    have BU : Hid (Below V.heap.size V w1) := B1
    clear B1
    have hVU : V.heap.size ≤ w1.heap.size := BU.out.size
    generalize hU : w1 = U at *
    have HK : Hid (∀ W : World, Below U.heap.size U W → Below U.heap.size U W ∧ U.heap.size ≤ W.heap.size ∧ W.cell? ⟨A, 0, none⟩ = some (.slice b ns.length d) ∧ W.cell? ⟨A + 1, 0, none⟩ = some (.int .i64 v.a) ∧ W.cell? ⟨A + 1, 1, none⟩ = some (.int .i64 v.b) ∧ W.cell? ⟨A + 1, 2, none⟩ = some (.int .i64 v.c)) := fun W h => ⟨h, h.size, (HAU.out.below h).cell 0 _ rfl, (HWU.out.below h).cell 0 _ rfl, (HWU.out.below h).cell 1 _ rfl, (HWU.out.below h).cell 2 _ rfl⟩
    have D1 : Hid (Below U.heap.size U U.drew) := low_drew U
    have z1 : U.heap.size ≤ U.heap.size := Nat.le_refl _
    have z2 : U.heap.size ≤ U.drew.heap.size := Nat.le_refl _
    go_cut [10, 11] (fun p q wc => ∃ (Z : Nat) (a : Option Addr) (c : Nat), p = .pointer (some ⟨Z, 0, none⟩) ∧ q = .bool k ∧ Boxd U wc Z a c r)
    case first =>
      go_region_held3 (fun W => Below U.heap.size U W ∧ U.heap.size ≤ W.heap.size ∧ W.cell? ⟨A, 0, none⟩ = some (.slice b ns.length d) ∧ W.cell? ⟨A + 1, 0, none⟩ = some (.int .i64 v.a) ∧ W.cell? ⟨A + 1, 1, none⟩ = some (.int .i64 v.b) ∧ W.cell? ⟨A + 1, 2, none⟩ = some (.int .i64 v.c)) ((go_split_ands; refine HK.out _ ?_; first | (exact Hid.out (by with_reducible assumption)) | (exact behind_alloc (Hid.out (by with_reducible assumption)) _) | (with_reducible assumption) | (exact behind (by with_reducible assumption) (by with_reducible assumption)) | (exact behind_alloc (by with_reducible assumption) _) | (repeat (refine Below.setCell ?_ (by with_reducible assumption) _)); (exact Hid.out (by with_reducible assumption)) | (go_grown; done)))
        (first
        | (go_at_call 16; refine (toProf_c b d ns hn _ (HSU.out.below (And.left (by with_reducible assumption)))).mono ?_; rintro e wk ⟨h, rfl, hh, hr, hbk⟩; have HR1 : Hid (Row wk h (flat ns)) := hr; clear hr; (try (first | have HX : Hid (Row wk _ [.slice none 0 0]) := (row_fresh _ [.slice none 0 0] 25).below hbk | have HX : Hid (Row wk _ [.slice none 0 0]) := ((row_fresh _ [.slice none 0 0] 25).below (low_drew _)).below hbk)); have Bk : Hid (Below U.heap.size U wk) := behind hbk (And.left (by with_reducible assumption)); have zk := Bk.out.size; (first | have C := behind hbk (by with_reducible assumption) | have C := hbk); obtain ⟨hck, hfk, hzk⟩ := bfacts C)
        | (go_at_call 17; refine (toVec_c _ _ _ _).mono ?_; rintro e wk ⟨rfl, hbk⟩; (first | (have HR2 : Hid (Row wk h (flat ns)) := HR1.out.below hbk) | (have HR2 : Hid (Row wk h (flat ns)) := (HR1.out.below (low_alloc _ _)).below hbk)); (try have HX : Hid (Row wk _ [.slice none 0 0]) := HX.out.below hbk); (try (first | have HX : Hid (Row wk _ [.slice none 0 0]) := (row_fresh _ [.slice none 0 0] 25).below hbk | have HX : Hid (Row wk _ [.slice none 0 0]) := ((row_fresh _ [.slice none 0 0] 25).below (low_drew _)).below hbk)); have Bk : Hid (Below U.heap.size U wk) := behind hbk (And.left (by with_reducible assumption)); have zk := Bk.out.size; (first | have C := behind hbk (by with_reducible assumption) | have C := hbk); obtain ⟨hck, hfk, hzk⟩ := bfacts C)
        | (go_at_call 21; (first | refine (HCS.out _ _ (Sq.of_row HR2.out)).mono ?_ | refine (HCS.out _ _ ((Sq.of_row HR2.out).below (low_alloc _ _))).mono ?_); rintro e wk ⟨v0, rfl, hans, hbk⟩; obtain ⟨a0', c0', hv0, _⟩ := hans.form; subst hv0;
            have Bk : Hid (Below U.heap.size U wk) := behind hbk (And.left (by with_reducible assumption));
            (try have FB : Hid (Boxd U (wk.setCell ⟨_, 0, none⟩ (.slice a0' r.length c0')) _ a0' c0' r) := fin_box HX.out hans hbk Bk.out (by first | exact Nat.le_refl _ | omega | (simp [go_sem]; omega)));
            (try have FB : Hid (Boxd U (wk.setCell ⟨_, 0, none⟩ (.slice a0' r.length c0')) _ a0' c0' r) := fin_box (row_fresh _ [.slice none 0 0] 25) hans hbk Bk.out (by first | exact Nat.le_refl _ | omega | (simp [go_sem]; omega)));
            have FN : Hid (Boxd U (wk.alloc (.cells #[.slice a0' r.length c0'] 25)) wk.heap.size a0' c0' r) := fin_new hans (by first | exact Nat.le_refl _ | omega | (simp [go_sem]; omega)) Bk.out; clear hans;
            (first | have C := behind hbk (by with_reducible assumption) | have C := hbk); obtain ⟨hck, hfk, hzk⟩ := bfacts C))
      all_goals
        go_split_ands
        go_wp2_with fail
        go_meet
        case rel =>
          first
            | exact ⟨_, _, _, rfl, rfl, FB.out⟩
            | exact ⟨U.heap.size, a0', c0', rfl, rfl, FB.out⟩
            | exact ⟨_, _, _, rfl, rfl, FN.out⟩
    case rest =>
    obtain ⟨X, a0, c0, rfl, rfl, hX, hP, hB, hUX, _⟩ := hcut
    have B3 : Hid (Below V.heap.size V wc) := below_then BU.out hB
    have X3 : Hid (Row wc X [.slice a0 r.length c0]) := hX
    have P3 : Hid (AnsP V.heap.size wc.heap.size wc r.length (flat r) (.slice a0 r.length c0)) := hP.wide hVU (Nat.le_refl _)
    have hVc : V.heap.size ≤ wc.heap.size := B3.out.size
    have hX3 : X < wc.heap.size := X3.out.lt
    have hVX : V.heap.size ≤ X := by omega
    subst hU
    clear hX hP hB D1 z1 z2 HK HSU HAU HWU BU HCS hVU hUX
    have hT0 : wc.heap.size ≤ wc.heap.size := Nat.le_refl _
    generalize hT : wc.heap.size = T0 at P3 hVc hX3
    have t0 := (HA.out.below B3.out).cell 0 _ rfl
    go_wp2_with fail
    refine (toProf_c b d ns hn _ (HS0.out.below B3.out)).mono ?_
    rintro e w5 ⟨h4, rfl, hh4, hr2, hb⟩
    have hT5 : T0 ≤ w5.heap.size := by have := hb.size; omega
    have hT4 : T0 ≤ h4 := by omega
    have H5 : Hid (Row w5 h4 (flat ns)) := hr2
    have B5 : Hid (Below V.heap.size V w5) := below_then B3.out hb
    have X5 : Hid (Row w5 X [.slice a0 r.length c0]) := X3.out.below hb
    have P5 : Hid (AnsP V.heap.size T0 w5 r.length (flat r) (.slice a0 r.length c0)) := P3.out.below hb
    clear hb hr2 t0 B3 X3 P3 hT hT0 hh4
    have B6 : Hid (Below V.heap.size V (w5.alloc (.cells #[.slice (some ⟨h4, 0, none⟩) ns.length ns.length] 25))) := behind_alloc B5.out _
    have X6 : Hid (Row (w5.alloc (.cells #[.slice (some ⟨h4, 0, none⟩) ns.length ns.length] 25)) X [.slice a0 r.length c0]) := X5.out.below (low_alloc _ _)
    have P6 : Hid (AnsP V.heap.size T0 (w5.alloc (.cells #[.slice (some ⟨h4, 0, none⟩) ns.length ns.length] 25)) r.length (flat r) (.slice a0 r.length c0)) := P5.out.below (low_alloc _ _)
    have H6 : Hid (Row (w5.alloc (.cells #[.slice (some ⟨h4, 0, none⟩) ns.length ns.length] 25)) h4 (flat ns)) := H5.out.below (low_alloc _ _)
    have Y6 : Hid (Row (w5.alloc (.cells #[.slice (some ⟨h4, 0, none⟩) ns.length ns.length] 25)) w5.heap.size [.slice (some ⟨h4, 0, none⟩) ns.length ns.length]) := row_fresh w5 [.slice (some ⟨h4, 0, none⟩) ns.length ns.length] 25
    have hh5 : h4 < w5.heap.size := H5.out.lt
    have hX5 := X5.out.lt
    clear B5 X5 P5 H5
    go_wp2_with fail
    generalize w5.alloc (.cells #[.slice (some ⟨h4, 0, none⟩) ns.length ns.length] 25) = w6 at *
    generalize w5.heap.size = Y at *
    have hY6 : Y < w6.heap.size := Y6.out.lt
    have HHU : Hid (Row w6 h4 (flat ns)) := H6
    have HYU : Hid (Row w6 Y [.slice (some ⟨h4, 0, none⟩) ns.length ns.length]) := Y6
    have HWU : Hid (Row w6 (A + 1) [.int .i64 v.a, .int .i64 v.b, .int .i64 v.c]) := HW.out.below B6.out
    generalize hU : w6 = U at *
    have HK : Hid (∀ W : World, Below U.heap.size U W → Below U.heap.size U W ∧ U.heap.size ≤ W.heap.size ∧ W.cell? ⟨Y, 0, none⟩ = some (.slice (some ⟨h4, 0, none⟩) ns.length ns.length) ∧ W.cell? ⟨A + 1, 0, none⟩ = some (.int .i64 v.a) ∧ W.cell? ⟨A + 1, 1, none⟩ = some (.int .i64 v.b) ∧ W.cell? ⟨A + 1, 2, none⟩ = some (.int .i64 v.c)) := fun W h => ⟨h, h.size, (HYU.out.below h).cell 0 _ rfl, (HWU.out.below h).cell 0 _ rfl, (HWU.out.below h).cell 1 _ rfl, (HWU.out.below h).cell 2 _ rfl⟩
    have D1 : Hid (Below U.heap.size U U.drew) := low_drew U
    have z1 : U.heap.size ≤ U.heap.size := Nat.le_refl _
    have z2 : U.heap.size ≤ U.drew.heap.size := Nat.le_refl _
    go_cut [13, 14] (fun p q wc => ∃ (Z : Nat) (a : Option Addr) (c : Nat), p = .pointer (some ⟨Z, 0, none⟩) ∧ q = .bool k ∧ Boxd U wc Z a c r)
    case first =>
      go_region_held3 (fun W => Below U.heap.size U W ∧ U.heap.size ≤ W.heap.size ∧ W.cell? ⟨Y, 0, none⟩ = some (.slice (some ⟨h4, 0, none⟩) ns.length ns.length) ∧ W.cell? ⟨A + 1, 0, none⟩ = some (.int .i64 v.a) ∧ W.cell? ⟨A + 1, 1, none⟩ = some (.int .i64 v.b) ∧ W.cell? ⟨A + 1, 2, none⟩ = some (.int .i64 v.c)) ((go_split_ands; refine HK.out _ ?_; first | (exact Hid.out (by with_reducible assumption)) | (exact behind_alloc (Hid.out (by with_reducible assumption)) _) | (with_reducible assumption) | (exact behind (by with_reducible assumption) (by with_reducible assumption)) | (exact behind_alloc (by with_reducible assumption) _) | (repeat (refine Below.setCell ?_ (by with_reducible assumption) _)); (exact Hid.out (by with_reducible assumption)) | (go_grown; done)))
        (first
        | (go_at_call 17; refine (toVec_c _ _ _ _).mono ?_; rintro e wk ⟨rfl, hbk⟩; (try (first | have HX : Hid (Row wk _ [.slice none 0 0]) := (row_fresh _ [.slice none 0 0] 25).below hbk | have HX : Hid (Row wk _ [.slice none 0 0]) := ((row_fresh _ [.slice none 0 0] 25).below (low_drew _)).below hbk)); have Bk : Hid (Below U.heap.size U wk) := behind hbk (And.left (by with_reducible assumption)); have zk := Bk.out.size; (first | have C := behind hbk (by with_reducible assumption) | have C := hbk); obtain ⟨hck, hfk, hzk⟩ := bfacts C)
        | (go_at_call 12; refine (HCI.out _ _ ((Sq.of_row HHU.out).below (And.left (by with_reducible assumption)))).mono ?_; rintro e wk ⟨v0, rfl, hans, hbk⟩; obtain ⟨a0', c0', hv0, _⟩ := hans.form; subst hv0;
            have Bk : Hid (Below U.heap.size U wk) := behind hbk (And.left (by with_reducible assumption));
            (try have FB : Hid (Boxd U (wk.setCell ⟨_, 0, none⟩ (.slice a0' r.length c0')) _ a0' c0' r) := fin_box HX.out hans hbk Bk.out (by first | exact Nat.le_refl _ | omega | (simp [go_sem]; omega)));
            (try have FB : Hid (Boxd U (wk.setCell ⟨_, 0, none⟩ (.slice a0' r.length c0')) _ a0' c0' r) := fin_box (row_fresh _ [.slice none 0 0] 25) hans hbk Bk.out (by first | exact Nat.le_refl _ | omega | (simp [go_sem]; omega)));
            have FN : Hid (Boxd U (wk.alloc (.cells #[.slice a0' r.length c0'] 25)) wk.heap.size a0' c0' r) := fin_new hans (by first | exact Nat.le_refl _ | omega | (simp [go_sem]; omega)) Bk.out; clear hans;
            (first | have C := behind hbk (by with_reducible assumption) | have C := hbk); obtain ⟨hck, hfk, hzk⟩ := bfacts C))
      all_goals
        go_split_ands
        go_wp2_with fail
        go_meet
        case rel =>
          first
            | exact ⟨_, _, _, rfl, rfl, FB.out⟩
            | exact ⟨U.heap.size, a0', c0', rfl, rfl, FB.out⟩
            | exact ⟨_, _, _, rfl, rfl, FN.out⟩
    case rest =>
    obtain ⟨Z, a1, c1, rfl, rfl, hZ, _, hb, hUZ, G, hQ, hUG, hZG⟩ := hcut
    subst hU
    have Q8 : Hid (AnsP G (G + 1) wc r.length (flat r) (.slice a1 r.length c1)) := hQ
    have Z8 : Hid (Row wc Z [.slice a1 r.length c1]) := hZ
    have hZ8 : Z < wc.heap.size := hZ.lt
    have h68 : w6.heap.size ≤ wc.heap.size := hb.size
    have B8 : Hid (Below V.heap.size V wc) := below_then B6.out hb
    have X8 : Hid (Row wc X [.slice a0 r.length c0]) := X6.out.below hb
    have P8 : Hid (AnsP V.heap.size T0 wc r.length (flat r) (.slice a0 r.length c0)) := P6.out.below hb
    have H8 : Hid (Row wc h4 (flat ns)) := H6.out.below hb
    have Y8 : Hid (Row wc Y [.slice (some ⟨h4, 0, none⟩) ns.length ns.length]) := Y6.out.below hb
    clear hb hZ hQ D1 z1 z2 HK HHU HYU HWU B6 X6 P6 H6 Y6
    generalize w6.heap.size = B1' at *
    have x0 := X8.out.cell 0 _ rfl
    have z0 := Z8.out.cell 0 _ rfl
    generalize wc = w8 at *
    go_wp2_with fail
    refine (eqProf_ans Q8.out P8.out hrl).mono ?_
    rintro e w9 ⟨rfl, hb⟩
    rw [decide_eq_true rfl]
    have B9 : Hid (Below V.heap.size V w9) := below_then B8.out hb
    have X9 : Hid (Row w9 X [.slice a0 r.length c0]) := X8.out.below hb
    have P9 : Hid (AnsP V.heap.size T0 w9 r.length (flat r) (.slice a0 r.length c0)) := P8.out.below hb
    have H9 : Hid (Row w9 h4 (flat ns)) := H8.out.below hb
    have Y9 : Hid (Row w9 Y [.slice (some ⟨h4, 0, none⟩) ns.length ns.length]) := Y8.out.below hb
    have Q9 : Hid (AnsP G (G + 1) w9 r.length (flat r) (.slice a1 r.length c1)) := Q8.out.below hb
    have Z9 : Hid (Row w9 Z [.slice a1 r.length c1]) := Z8.out.below hb
    clear hb B8 X8 P8 H8 Y8 Q8 Z8
    clear x0 z0
    go_wp2_with fail
    have hb := low_drew w9
    have t0 := (HA.out.below B9.out).cell 0 _ rfl
    have y0 := Y9.out.cell 0 _ rfl
    have Ba : Hid (Below V.heap.size V w9.drew) := below_then B9.out hb
    have Xa : Hid (Row w9.drew X [.slice a0 r.length c0]) := X9.out.below hb
    have Pa : Hid (AnsP V.heap.size T0 w9.drew r.length (flat r) (.slice a0 r.length c0)) := P9.out.below hb
    have Ha : Hid (Row w9.drew h4 (flat ns)) := H9.out.below hb
    have Ya : Hid (Row w9.drew Y [.slice (some ⟨h4, 0, none⟩) ns.length ns.length]) := Y9.out.below hb
    have Qa : Hid (AnsP G (G + 1) w9.drew r.length (flat r) (.slice a1 r.length c1)) := Q9.out.below hb
    have Za : Hid (Row w9.drew Z [.slice a1 r.length c1]) := Z9.out.below hb
    clear hb B9 X9 P9 H9 Y9 Q9 Z9
    go_cut [59] (fun u wc => u = .bool false ∧ (Below V.heap.size V wc) ∧ (Row wc X [.slice a0 r.length c0]) ∧ (AnsP V.heap.size T0 wc r.length (flat r) (.slice a0 r.length c0)) ∧ (Row wc h4 (flat ns)) ∧ (Row wc Y [.slice (some ⟨h4, 0, none⟩) ns.length ns.length]) ∧ (AnsP G (G + 1) wc r.length (flat r) (.slice a1 r.length c1)) ∧ (Row wc Z [.slice a1 r.length c1]))
    case first =>
      go_region_with (first
        | (go_at_call 16; refine (toProf_c b d ns hn w9.drew (HS0.out.below Ba.out)).mono ?_; rintro e wb ⟨h8, rfl, _, hr2, hb⟩; have y1 := (Ya.out.below hb).cell 0 _ rfl; have Bb : Hid (Below V.heap.size V wb) := below_then Ba.out hb; have Xb : Hid (Row wb X [.slice a0 r.length c0]) := Xa.out.below hb; have Pb : Hid (AnsP V.heap.size T0 wb r.length (flat r) (.slice a0 r.length c0)) := Pa.out.below hb; have Hb : Hid (Row wb h4 (flat ns)) := Ha.out.below hb; have Yb : Hid (Row wb Y [.slice (some ⟨h4, 0, none⟩) ns.length ns.length]) := Ya.out.below hb; have Qb : Hid (AnsP G (G + 1) wb r.length (flat r) (.slice a1 r.length c1)) := Qa.out.below hb; have Zb : Hid (Row wb Z [.slice a1 r.length c1]) := Za.out.below hb; have K8 : Hid (Row wb h8 (flat ns)) := hr2; clear hb hr2)
        | (go_at_call 18; refine (eqProf_c _ _ _ _ ns ns hn wb (Sq.of_row Hb.out) (Sq.of_row K8.out)).mono ?_; rintro e wd ⟨rfl, hb⟩; have Bd : Hid (Below V.heap.size V wd) := below_then Bb.out hb; have Xd : Hid (Row wd X [.slice a0 r.length c0]) := Xb.out.below hb; have Pd : Hid (AnsP V.heap.size T0 wd r.length (flat r) (.slice a0 r.length c0)) := Pb.out.below hb; have Hd : Hid (Row wd h4 (flat ns)) := Hb.out.below hb; have Yd : Hid (Row wd Y [.slice (some ⟨h4, 0, none⟩) ns.length ns.length]) := Yb.out.below hb; have Qd : Hid (AnsP G (G + 1) wd r.length (flat r) (.slice a1 r.length c1)) := Qb.out.below hb; have Zd : Hid (Row wd Z [.slice a1 r.length c1]) := Zb.out.below hb; clear hb))
      all_goals
        go_wp2_with fail
        go_meet
        case rel => exact ⟨rfl, Bd.out, Xd.out, Pd.out, Hd.out, Yd.out, Qd.out, Zd.out⟩
    case rest =>
    clear Ba Xa Pa Ha Ya Qa Za t0 y0
    obtain ⟨rfl, jB, jX, jP, jH, jY, jQ, jZ⟩ := hcut
    have Be : Hid (Below V.heap.size V wc) := jB
    have Xe : Hid (Row wc X [.slice a0 r.length c0]) := jX
    have Pe : Hid (AnsP V.heap.size T0 wc r.length (flat r) (.slice a0 r.length c0)) := jP
    have He : Hid (Row wc h4 (flat ns)) := jH
    have Ye : Hid (Row wc Y [.slice (some ⟨h4, 0, none⟩) ns.length ns.length]) := jY
    have Qe : Hid (AnsP G (G + 1) wc r.length (flat r) (.slice a1 r.length c1)) := jQ
    have Ze : Hid (Row wc Z [.slice a1 r.length c1]) := jZ
    clear jB jX jP jH jY jQ jZ
    have y0 := Ye.out.cell 0 _ rfl
    go_wp2_with fail
    refine (markProf_ans (k0 := 1) (B := h4) (T := h4 + 1) (AnsP.of_row (cap := ns.length) (flat_len ns) He.out (Nat.le_refl _) (Nat.lt_succ_self _)) hn (by omega)).mono ?_
    rintro e wf ⟨rfl, _, hk, hbw, _⟩
    have Bf : Hid (Below V.heap.size V wf) := hbw V Be.out (by omega)
    have Pf : Hid (AnsP V.heap.size T0 wf r.length (flat r) (.slice a0 r.length c0)) := Pe.out.keep fun g h1 h2 hr => hk g _ hr (by omega)
    have Qf : Hid (AnsP G (G + 1) wf r.length (flat r) (.slice a1 r.length c1)) := Qe.out.keep fun g h1 h2 hr => hk g _ hr (by omega)
    have Xf : Hid (Row wf X [.slice a0 r.length c0]) := hk _ _ Xe.out (by omega)
    have Yf : Hid (Row wf Y [.slice (some ⟨h4, 0, none⟩) ns.length ns.length]) := hk _ _ Ye.out (by omega)
    have Zf : Hid (Row wf Z [.slice a1 r.length c1]) := hk _ _ Ze.out (by omega)
    clear hk hbw y0 He Be Xe Pe Ye Qe Ze
    generalize 1 + 4 * ns.length = km
    have x0 := Xf.out.cell 0 _ rfl
    have z0 := Zf.out.cell 0 _ rfl
    go_wp2_with fail
    refine (eqProf_ans Qf.out Pf.out hrl).mono ?_
    rintro e wg ⟨rfl, hb⟩
    rw [decide_eq_true rfl]
    have Bg : Hid (Below V.heap.size V wg) := below_then Bf.out hb
    have Xg : Hid (Row wg X [.slice a0 r.length c0]) := Xf.out.below hb
    have Pg : Hid (AnsP V.heap.size T0 wg r.length (flat r) (.slice a0 r.length c0)) := Pf.out.below hb
    have Yg : Hid (Row wg Y [.slice (some ⟨h4, 0, none⟩) ns.length ns.length]) := Yf.out.below hb
    have Qg : Hid (AnsP G (G + 1) wg r.length (flat r) (.slice a1 r.length c1)) := Qf.out.below hb
    have Zg : Hid (Row wg Z [.slice a1 r.length c1]) := Zf.out.below hb
    clear hb Bf Xf Pf Yf Qf Zf
    clear x0 z0
    have z0 := Zg.out.cell 0 _ rfl
    go_wp2_with fail
    refine (markProf_ans (k0 := 1) Qg.out hrl (by omega)).mono ?_
    rintro e wh ⟨rfl, hC, hk, hbw, _⟩
    have Bh : Hid (Below V.heap.size V wh) := hbw V Bg.out (by omega)
    have Ph : Hid (AnsP V.heap.size T0 wh r.length (flat r) (.slice a0 r.length c0)) := Pg.out.keep fun g h1 h2 hr => hk g _ hr (by omega)
    have Xh : Hid (Row wh X [.slice a0 r.length c0]) := hk _ _ Xg.out (by omega)
    have Yh : Hid (Row wh Y [.slice (some ⟨h4, 0, none⟩) ns.length ns.length]) := hk _ _ Yg.out (by omega)
    have Zh : Hid (Row wh Z [.slice a1 r.length c1]) := hk _ _ Zg.out (by omega)
    have Qh : Hid (AnsP G (G + 1) wh r.length (upFrom 1 (4 * r.length)) (.slice a1 r.length c1)) := hC
    clear hC hk hbw z0 Bg Xg Pg Yg Qg Zg
    have z0 := Zh.out.cell 0 _ rfl
    go_wp2_with fail
    refine (heldProf_ans (k0 := 1) Qh.out hrl (by omega)).mono ?_
    rintro e wi ⟨rfl, hb⟩
    have Bi : Hid (Below V.heap.size V wi) := below_then Bh.out hb
    have Xi : Hid (Row wi X [.slice a0 r.length c0]) := Xh.out.below hb
    have Pi : Hid (AnsP V.heap.size T0 wi r.length (flat r) (.slice a0 r.length c0)) := Ph.out.below hb
    have Yi : Hid (Row wi Y [.slice (some ⟨h4, 0, none⟩) ns.length ns.length]) := Yh.out.below hb
    have Qi : Hid (AnsP G (G + 1) wi r.length (upFrom 1 (4 * r.length)) (.slice a1 r.length c1)) := Qh.out.below hb
    have Zi : Hid (Row wi Z [.slice a1 r.length c1]) := Zh.out.below hb
    clear hb Bh Xh Ph Yh Qh Zh
    clear z0
    go_wp2_with fail
    have HSU : Hid (Sq wi b (flat ns)) := HS0.out.below Bi.out
    have HAU : Hid (Row wi A [.slice b ns.length d]) := HA.out.below Bi.out
    have HWU : Hid (Row wi (A + 1) [.int .i64 v.a, .int .i64 v.b, .int .i64 v.c]) := HW.out.below Bi.out
    have hVU : V.heap.size ≤ wi.heap.size := Bi.out.size
    generalize hU : wi = U at *
    have HK : Hid (∀ W : World, Below U.heap.size U W → Below U.heap.size U W ∧ U.heap.size ≤ W.heap.size ∧ W.cell? ⟨A, 0, none⟩ = some (.slice b ns.length d) ∧ W.cell? ⟨A + 1, 0, none⟩ = some (.int .i64 v.a) ∧ W.cell? ⟨A + 1, 1, none⟩ = some (.int .i64 v.b) ∧ W.cell? ⟨A + 1, 2, none⟩ = some (.int .i64 v.c)) := fun W h => ⟨h, h.size, (HAU.out.below h).cell 0 _ rfl, (HWU.out.below h).cell 0 _ rfl, (HWU.out.below h).cell 1 _ rfl, (HWU.out.below h).cell 2 _ rfl⟩
    have D1 : Hid (Below U.heap.size U U.drew) := low_drew U
    have z1 : U.heap.size ≤ U.heap.size := Nat.le_refl _
    have z2 : U.heap.size ≤ U.drew.heap.size := Nat.le_refl _
    go_cut [18, 19] (fun p q wc => ∃ (Z : Nat) (a : Option Addr) (c : Nat), p = .pointer (some ⟨Z, 0, none⟩) ∧ q = .bool k ∧ Boxd U wc Z a c r)
    case first =>
      go_region_held3 (fun W => Below U.heap.size U W ∧ U.heap.size ≤ W.heap.size ∧ W.cell? ⟨A, 0, none⟩ = some (.slice b ns.length d) ∧ W.cell? ⟨A + 1, 0, none⟩ = some (.int .i64 v.a) ∧ W.cell? ⟨A + 1, 1, none⟩ = some (.int .i64 v.b) ∧ W.cell? ⟨A + 1, 2, none⟩ = some (.int .i64 v.c)) ((go_split_ands; refine HK.out _ ?_; first | (exact Hid.out (by with_reducible assumption)) | (exact behind_alloc (Hid.out (by with_reducible assumption)) _) | (with_reducible assumption) | (exact behind (by with_reducible assumption) (by with_reducible assumption)) | (exact behind_alloc (by with_reducible assumption) _) | (repeat (refine Below.setCell ?_ (by with_reducible assumption) _)); (exact Hid.out (by with_reducible assumption)) | (go_grown; done)))
        (first
        | (go_at_call 16; refine (toProf_c b d ns hn _ (HSU.out.below (And.left (by with_reducible assumption)))).mono ?_; rintro e wk ⟨h, rfl, hh, hr, hbk⟩; have HR1 : Hid (Row wk h (flat ns)) := hr; clear hr; (try (first | have HX : Hid (Row wk _ [.slice none 0 0]) := (row_fresh _ [.slice none 0 0] 25).below hbk | have HX : Hid (Row wk _ [.slice none 0 0]) := ((row_fresh _ [.slice none 0 0] 25).below (low_drew _)).below hbk)); have Bk : Hid (Below U.heap.size U wk) := behind hbk (And.left (by with_reducible assumption)); have zk := Bk.out.size; (first | have C := behind hbk (by with_reducible assumption) | have C := hbk); obtain ⟨hck, hfk, hzk⟩ := bfacts C)
        | (go_at_call 17; refine (toVec_c _ _ _ _).mono ?_; rintro e wk ⟨rfl, hbk⟩; (first | (have HR2 : Hid (Row wk h (flat ns)) := HR1.out.below hbk) | (have HR2 : Hid (Row wk h (flat ns)) := (HR1.out.below (low_alloc _ _)).below hbk)); (try have HX : Hid (Row wk _ [.slice none 0 0]) := HX.out.below hbk); (try (first | have HX : Hid (Row wk _ [.slice none 0 0]) := (row_fresh _ [.slice none 0 0] 25).below hbk | have HX : Hid (Row wk _ [.slice none 0 0]) := ((row_fresh _ [.slice none 0 0] 25).below (low_drew _)).below hbk)); have Bk : Hid (Below U.heap.size U wk) := behind hbk (And.left (by with_reducible assumption)); have zk := Bk.out.size; (first | have C := behind hbk (by with_reducible assumption) | have C := hbk); obtain ⟨hck, hfk, hzk⟩ := bfacts C)
        | (go_at_call 12; (first | refine (HCI.out _ _ (Sq.of_row HR2.out)).mono ?_ | refine (HCI.out _ _ ((Sq.of_row HR2.out).below (low_alloc _ _))).mono ?_); rintro e wk ⟨v0, rfl, hans, hbk⟩; obtain ⟨a0', c0', hv0, _⟩ := hans.form; subst hv0;
            have Bk : Hid (Below U.heap.size U wk) := behind hbk (And.left (by with_reducible assumption));
            (try have FB : Hid (Boxd U (wk.setCell ⟨_, 0, none⟩ (.slice a0' r.length c0')) _ a0' c0' r) := fin_box HX.out hans hbk Bk.out (by first | exact Nat.le_refl _ | omega | (simp [go_sem]; omega)));
            (try have FB : Hid (Boxd U (wk.setCell ⟨_, 0, none⟩ (.slice a0' r.length c0')) _ a0' c0' r) := fin_box (row_fresh _ [.slice none 0 0] 25) hans hbk Bk.out (by first | exact Nat.le_refl _ | omega | (simp [go_sem]; omega)));
            have FN : Hid (Boxd U (wk.alloc (.cells #[.slice a0' r.length c0'] 25)) wk.heap.size a0' c0' r) := fin_new hans (by first | exact Nat.le_refl _ | omega | (simp [go_sem]; omega)) Bk.out; clear hans;
            (first | have C := behind hbk (by with_reducible assumption) | have C := hbk); obtain ⟨hck, hfk, hzk⟩ := bfacts C))
      all_goals
        go_split_ands
        go_wp2_with fail
        go_meet
        case rel =>
          first
            | exact ⟨_, _, _, rfl, rfl, FB.out⟩
            | exact ⟨U.heap.size, a0', c0', rfl, rfl, FB.out⟩
            | exact ⟨_, _, _, rfl, rfl, FN.out⟩
    case rest =>
    obtain ⟨R, a2, c2, rfl, rfl, hR, hRa, hb, _, _⟩ := hcut
    subst hU
    have Rk : Hid (AnsP wi.heap.size wc.heap.size wc r.length (flat r) (.slice a2 r.length c2)) := hRa
    have r0 := hR.cell 0 _ rfl
    have Bk : Hid (Below V.heap.size V wc) := below_then Bi.out hb
    have Xk : Hid (Row wc X [.slice a0 r.length c0]) := Xi.out.below hb
    have Pk : Hid (AnsP V.heap.size T0 wc r.length (flat r) (.slice a0 r.length c0)) := Pi.out.below hb
    have Yk : Hid (Row wc Y [.slice (some ⟨h4, 0, none⟩) ns.length ns.length]) := Yi.out.below hb
    have Qk : Hid (AnsP G (G + 1) wc r.length (upFrom 1 (4 * r.length)) (.slice a1 r.length c1)) := Qi.out.below hb
    have Zk : Hid (Row wc Z [.slice a1 r.length c1]) := Zi.out.below hb
    clear hb hR hRa D1 z1 z2 HK HSU HAU HWU Bi Xi Pi Yi Qi Zi
    have x0 := Xk.out.cell 0 _ rfl
    generalize wc = wm at *
    go_wp2_with fail
    refine (eqProf_ans Rk.out Pk.out hrl).mono ?_
    rintro e wn ⟨rfl, hb⟩
    rw [decide_eq_true rfl]
    clear Rk r0 x0
    have Bn : Hid (Below V.heap.size V wn) := below_then Bk.out hb
    have Xn : Hid (Row wn X [.slice a0 r.length c0]) := Xk.out.below hb
    have Pn : Hid (AnsP V.heap.size T0 wn r.length (flat r) (.slice a0 r.length c0)) := Pk.out.below hb
    have Yn : Hid (Row wn Y [.slice (some ⟨h4, 0, none⟩) ns.length ns.length]) := Yk.out.below hb
    have Qn : Hid (AnsP G (G + 1) wn r.length (upFrom 1 (4 * r.length)) (.slice a1 r.length c1)) := Qk.out.below hb
    have Zn : Hid (Row wn Z [.slice a1 r.length c1]) := Zk.out.below hb
    clear hb Bk Xk Pk Yk Qk Zk
    have z0 := Zn.out.cell 0 _ rfl
    go_wp2_with fail
    refine (heldProf_ans (k0 := 1) Qn.out hrl (by omega)).mono ?_
    rintro e wo ⟨rfl, hb⟩
    have Bo : Hid (Below V.heap.size V wo) := below_then Bn.out hb
    have Xo : Hid (Row wo X [.slice a0 r.length c0]) := Xn.out.below hb
    have Po : Hid (AnsP V.heap.size T0 wo r.length (flat r) (.slice a0 r.length c0)) := Pn.out.below hb
    have Yo : Hid (Row wo Y [.slice (some ⟨h4, 0, none⟩) ns.length ns.length]) := Yn.out.below hb
    have Qo : Hid (AnsP G (G + 1) wo r.length (upFrom 1 (4 * r.length)) (.slice a1 r.length c1)) := Qn.out.below hb
    have Zo : Hid (Row wo Z [.slice a1 r.length c1]) := Zn.out.below hb
    clear hb Bn Xn Pn Yn Qn Zn
    clear z0
    go_wp2_with fail
    go_ret
    exact ⟨rfl, below_then HV.out Bo.out⟩

set_option maxRecDepth 100000 in
theorem lifted (os : Os) (started : os.Started) (H : Type) (enc : TypeId × Value → H) :
    ReturnsInHanded {} Try.checked os 5 .any (Rows.fnExactProfGiveSpec.pre6 enc Try.prog Try.f5 Rows.fnExactProfGiveRow.domain false) (Rows.fnExactProfGiveSpec.post enc Try.prog Try.f5 false true false false) := by
  refine returnsInHanded_of_change (C := Try.checked) own started (by kernel_rfl) Try.func5
    (ChangeSpec.witness6 (enc := enc) (C := Try.checked) false ⟨#[], #[.agg #[.slice none 0 0], .int .i64 0, .int .i64 0, .agg #[.int .i64 0, .int .i64 0, .int .i64 0]], []⟩ 8 (by kernel_rfl) (by kernel_rfl) (by kernel_rfl) (by kernel_rfl)) ?_
  intro W base args ds gs before hval0 hW _ _
  have hval : ∀ (j : Nat) t v, Try.f5.params[j]? = some t → args[j]? = some v → Value.okWide Try.prog W .any base t v := hval0
  have hW' := hW
  obtain ⟨p, q, hA0, hV, rfl, _, _⟩ := hW
  have hA : DataW.TrodAll enc Try.prog W 0 (fun _ => true) true Try.f5.params.toList args.toList ds p := hA0
  rw [Try.params5] at hA hval
  obtain ⟨v0, v1, v2, v3, d0, d1, d2, d3, p0, p1, p2, p3, rfl, rfl, rfl, h0, h1, h2, h3⟩ := trodAll_four hA
  obtain ⟨rfl, rfl⟩ := trodVars_none hV
  obtain ⟨b, d, ns, rfl, hn, hs'⟩ := prof_opened (hval 0 41 v0 rfl rfl) h0
  obtain ⟨f, rfl⟩ := okWide_int Try.underlying3 (hval 1 3 v1 rfl rfl)
  obtain ⟨u, rfl⟩ := okWide_int Try.underlying3 (hval 2 3 v2 rfl rfl)
  obtain ⟨x, y, z, rfl⟩ := vec_opened (hval 3 42 v3 rfl rfl) h3
  clear hA0 hval0
  simp only [List.append_nil] at hW'
  refine (walk b d ns f u ⟨0, x, y, z⟩ hn W hs').mono fun e W' ⟨he, hg⟩ => ?_
  subst he
  have hlt : ∀ x ∈ p0 ++ p1 ++ p2 ++ p3, x.block < W.heap.size := fun x hx => by simpa using hW'.lt x hx
  have harg := Below.trod laidOutAll (by kernel_rfl) (of_decide_eq_true (by kernel_rfl)) h0 hg (fun x hx => hlt x (by simp [hx]))
  have harg1 := Below.trod laidOutAll (by kernel_rfl) (of_decide_eq_true (by kernel_rfl)) h1 hg (fun x hx => hlt x (by simp [hx]))
  have harg2 := Below.trod laidOutAll (by kernel_rfl) (of_decide_eq_true (by kernel_rfl)) h2 hg (fun x hx => hlt x (by simp [hx]))
  have harg3 := Below.trod laidOutAll (by kernel_rfl) (of_decide_eq_true (by kernel_rfl)) h3 hg (fun x hx => hlt x (by simp [hx]))
  exact ⟨_, rfl, _, _, _, [], _, [], hW', trodAll_mk1 (shut_bool Try.underlying4 _), trodAll_mk4 harg harg1 harg2 harg3, rfl, hg.frame _, fun h => by cases h⟩
end LawProfGive

/-- For every profile: the law returns true, and it reads as it did. -/
theorem fnExactProfGive_holds : Rows.FnExactProfGiveSaid :=
  OpenClaim.holds_of_wide 5 Try.f5 rfl rfl rfl rfl rfl rfl rfl ⟨rfl, rfl, rfl, rfl, rfl⟩ rfl rfl rfl rfl rfl (by kernel_rfl) Try.func5 (by kernel_rfl)
    (of_decide_eq_true (by kernel_rfl)) (by unfold Func.isWrapper; rw [if_neg (of_decide_eq_false (by kernel_rfl))]; exact ⟨rfl, rfl⟩)
    (fun os started H enc _ => LawProfGive.lifted os started H enc)
#print axioms fnExactProfGive_holds
end Go.Proofs.Ytdmgcbagijiohaa
