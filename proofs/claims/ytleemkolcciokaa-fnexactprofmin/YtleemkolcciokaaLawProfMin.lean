/- FnExactProfMin: for every profile the program's ProfMin answers as the specification's; no condition. -/
import Derived.Test.YtleemkolcciokaaPMinC
import Derived.Test.YtleemkolcciokaaPtP
import Derived.ProofKit
import Derived.OpenShut
namespace Go.Proofs.Ytleemkolcciokaa
namespace LawProfMin
open Go.ChangeShapes Go.WideShapes Go.ChangeAt Go.RowKit Go.Joins

set_option maxHeartbeats 4000000 in
theorem walk (b : Option Addr) (d : Nat) (ns : List Nd) (t u : Int) (hn : ns.length ≤ maxLen) (w : World) (h' : Sq w b (flat ns)) :
    Calls Try.prog 9 #[.agg #[.slice b ns.length d], .int .i64 t, .int .i64 u] w fun e w' => e = .returned (.bool true) ∧ Below w.heap.size w w' := by
  have H' : Hid (Sq w b (flat ns)) := h'
  have Hn : Hid (ns.length ≤ maxLen) := hn
  have HCS : Hid (∀ (a' : Option Addr) (c' : Nat) (W : World), Sq W a' (flat ns) → Calls Try.prog 25 #[.agg #[.slice a' ns.length c'], .int .i64 t, .int .i64 u] W fun e w' => e = .returned (.tuple #[.agg #[.int .i64 (minR ns t u).a, .int .i64 (minR ns t u).b, .int .i64 (minR ns t u).c], .bool (minK ns t u)]) ∧ Below W.heap.size W w') := fun a' c' W hs => specProfMin_c a' c' ns t u W hs
  have HCI : Hid (∀ (a' : Option Addr) (W : World), Sq W a' (flat ns) → Calls Try.prog 24 #[.agg #[.slice a' ns.length ns.length], .int .i64 t, .int .i64 u] W fun e w' => e = .returned (.tuple #[.agg #[.int .i64 (minR ns t u).a, .int .i64 (minR ns t u).b, .int .i64 (minR ns t u).c], .bool (minK ns t u)]) ∧ Below W.heap.size W w') := fun a' W hs => implProfMin_c a' ns.length ns t u (Nat.le_refl _) W hs
  clear h' hn
  generalize minR ns t u = m at HCS HCI
  generalize minK ns t u = k at HCS HCI
  go_enter Try.func9, Try.ntmps9
  go_wp2_with fail
  generalize hV : w.alloc (.cells #[.slice b ns.length d] 51) = V
  have HA : Hid (Row V w.heap.size [.slice b ns.length d]) := by subst hV; exact row_fresh w [.slice b ns.length d] 51
  have HV : Hid (Below w.heap.size w V) := by subst hV; exact low_alloc _ _
  have HS0 : Hid (Sq V b (flat ns)) := by subst hV; exact H'.out.below (low_alloc _ _)
  clear hV H'
  refine (szProf_c b ns.length d Hn.out 1048576 (by omega) (by omega) V).mono ?_
  rintro e w1 ⟨rfl, hb⟩
  have HB1 : Hid (Below V.heap.size V w1) := hb
  have t0 := (HA.out.below hb).cell 0 _ rfl
  clear hb
  by_cases hz : szP ns.length 1048576 < 0
  · generalize szP ns.length 1048576 = z at hz
    go_wp2_with fail
    go_ret
    exact ⟨rfl, below_then HV.out HB1.out⟩
  · have hn := (szp_yes (Int.le_refl _) hz).1
    generalize szP ns.length 1048576 = z at hz
    go_wp2_with fail
    refine (toProf_c b d ns hn _ (HS0.out.below HB1.out)).mono ?_
    rintro e w2 ⟨h, rfl, _, hr2, hb⟩
    have HB2 : Hid (Below V.heap.size V w2) := below_then HB1.out hb
    have HH2 : Hid (Sq w2 (some ⟨h, 0, none⟩) (flat ns)) := Sq.of_row hr2
    clear hb hr2 t0 HB1
    go_wp2_with fail
    refine (HCS.out _ _ _ HH2.out).mono ?_
    rintro e w3 ⟨rfl, hb⟩
    have HB3 : Hid (Below V.heap.size V w3) := below_then HB2.out hb
    have t0 := (HA.out.below HB3.out).cell 0 _ rfl
    have hA3 := (HA.out.below HB3.out).lt
    have hne3 : w.heap.size ≠ w3.heap.size := by omega
    clear hb HH2 HB2
    go_wp2_with fail
    have HB4 : Hid (Below V.heap.size V (w3.alloc (.cells #[.int .i64 m.a, .int .i64 m.b, .int .i64 m.c] 27))) := behind_alloc HB3.out _
    have HX4 : Hid (Row (w3.alloc (.cells #[.int .i64 m.a, .int .i64 m.b, .int .i64 m.c] 27)) w3.heap.size [.int .i64 m.a, .int .i64 m.b, .int .i64 m.c]) := row_fresh w3 [.int .i64 m.a, .int .i64 m.b, .int .i64 m.c] 27
    generalize w3.alloc (.cells #[.int .i64 m.a, .int .i64 m.b, .int .i64 m.c] 27) = w4 at HB4 HX4
    clear HB3 t0 hA3 hne3
    generalize w3.heap.size = X at *
    refine (toProf_c b d ns hn _ (HS0.out.below HB4.out)).mono ?_
    rintro e w5 ⟨h4, rfl, _, hr2, hb⟩
    have HB5 : Hid (Below V.heap.size V w5) := below_then HB4.out hb
    have HX5 : Hid (Row w5 X [.int .i64 m.a, .int .i64 m.b, .int .i64 m.c]) := HX4.out.below hb
    have HH5 : Hid (Row w5 h4 (flat ns)) := hr2
    have hX5 := HX5.out.lt
    clear hb hr2 HB4 HX4
    go_wp2_with fail
    have HB6 : Hid (Below V.heap.size V (w5.alloc (.cells #[.slice (some ⟨h4, 0, none⟩) ns.length ns.length] 25))) := behind_alloc HB5.out _
    have HY6 : Hid (Row (w5.alloc (.cells #[.slice (some ⟨h4, 0, none⟩) ns.length ns.length] 25)) w5.heap.size [.slice (some ⟨h4, 0, none⟩) ns.length ns.length]) := row_fresh w5 [.slice (some ⟨h4, 0, none⟩) ns.length ns.length] 25
    have HX6 : Hid (Row (w5.alloc (.cells #[.slice (some ⟨h4, 0, none⟩) ns.length ns.length] 25)) X [.int .i64 m.a, .int .i64 m.b, .int .i64 m.c]) := HX5.out.below (low_alloc _ _)
    have HH6 : Hid (Row (w5.alloc (.cells #[.slice (some ⟨h4, 0, none⟩) ns.length ns.length] 25)) h4 (flat ns)) := HH5.out.below (low_alloc _ _)
    generalize w5.alloc (.cells #[.slice (some ⟨h4, 0, none⟩) ns.length ns.length] 25) = w6 at HB6 HY6 HX6 HH6
    clear HB5 HX5 HH5
    have hXY : X ≠ w5.heap.size := by omega
    generalize w5.heap.size = Y at *
    clear hX5
    refine (HCI.out _ _ (Sq.of_row HH6.out)).mono ?_
    rintro e w7 ⟨rfl, hb⟩
    have HB7 : Hid (Below V.heap.size V w7) := below_then HB6.out hb
    have HY7 : Hid (Row w7 Y [.slice (some ⟨h4, 0, none⟩) ns.length ns.length]) := HY6.out.below hb
    have HX7 : Hid (Row w7 X [.int .i64 m.a, .int .i64 m.b, .int .i64 m.c]) := HX6.out.below hb
    have HH7 : Hid (Row w7 h4 (flat ns)) := HH6.out.below hb
    have x0 := HX7.out.cell 0 _ rfl
    have x1 := HX7.out.cell 1 _ rfl
    have x2 := HX7.out.cell 2 _ rfl
    have hX7 := HX7.out.lt
    have hY7 := HY7.out.lt
    have hneX : X ≠ w7.heap.size := by omega
    clear hb HB6 HY6 HX6 HH6
    go_wp2_with fail
    have HB8 : Hid (Below V.heap.size V (w7.alloc (.cells #[.int .i64 m.a, .int .i64 m.b, .int .i64 m.c] 27))) := behind_alloc HB7.out _
    have HY8 : Hid (Row (w7.alloc (.cells #[.int .i64 m.a, .int .i64 m.b, .int .i64 m.c] 27)) Y [.slice (some ⟨h4, 0, none⟩) ns.length ns.length]) := HY7.out.below (low_alloc _ _)
    have HH8 : Hid (Row (w7.alloc (.cells #[.int .i64 m.a, .int .i64 m.b, .int .i64 m.c] 27)) h4 (flat ns)) := HH7.out.below (low_alloc _ _)
    generalize w7.alloc (.cells #[.int .i64 m.a, .int .i64 m.b, .int .i64 m.c] 27) = w8 at HB8 HY8 HH8
    clear HB7 HY7 HX7 HH7 x0 x1 x2 hX7 hY7 hneX
    refine (eqVec_c _ _ _ _ _ _ _).mono ?_
    rintro e w9 ⟨rfl, hb⟩
    rw [show (m.a == m.a && m.b == m.b && m.c == m.c) = true by simp]
    have HB9 : Hid (Below V.heap.size V w9) := below_then HB8.out hb
    have HY9 : Hid (Row w9 Y [.slice (some ⟨h4, 0, none⟩) ns.length ns.length]) := HY8.out.below hb
    have HH9 : Hid (Row w9 h4 (flat ns)) := HH8.out.below hb
    clear hb HB8 HY8 HH8
    go_wp2_with fail
    have HD := low_drew w9
    have HBa : Hid (Below V.heap.size V w9.drew) := below_then HB9.out HD
    have HYa : Hid (Row w9.drew Y [.slice (some ⟨h4, 0, none⟩) ns.length ns.length]) := HY9.out.below HD
    have HHa : Hid (Row w9.drew h4 (flat ns)) := HH9.out.below HD
    have t0 := (HA.out.below HB9.out).cell 0 _ rfl
    have x0 := HY9.out.cell 0 _ rfl
    clear HB9 HY9 HH9 HD
    go_region_with (first
      | (go_at_call 32; refine (toProf_c b d ns hn w9.drew (HS0.out.below HBa.out)).mono ?_; rintro e wb ⟨h8, rfl, _, hr2, hb⟩; have x80 := (HYa.out.below hb).cell 0 _ rfl; have HBb : Hid (Below V.heap.size V wb) := below_then HBa.out hb; have HHb : Hid (Row wb h4 (flat ns)) := HHa.out.below hb; have HHc : Hid (Row wb h8 (flat ns)) := hr2; clear hb hr2)
      | (go_at_call 33; refine (eqProf_c _ _ _ _ ns ns hn wb (Sq.of_row HHb.out) (Sq.of_row HHc.out)).mono ?_; rintro e wc ⟨rfl, hb⟩; have HBc : Hid (Below V.heap.size V wc) := below_then HBb.out hb; clear hb))
    all_goals
      go_wp2_with fail
      go_ret
      exact ⟨rfl, below_then HV.out HBc.out⟩

set_option maxRecDepth 100000 in
theorem lifted (os : Os) (started : os.Started) (H : Type) (enc : TypeId × Value → H) :
    ReturnsInHanded {} Try.checked os 9 .any (Rows.fnExactProfMinSpec.pre6 enc Try.prog Try.f9 Rows.fnExactProfMinRow.domain false) (Rows.fnExactProfMinSpec.post enc Try.prog Try.f9 false true false false) := by
  refine returnsInHanded_of_change (C := Try.checked) own started (by kernel_rfl) Try.func9
    (ChangeSpec.witness6 (enc := enc) (C := Try.checked) false ⟨#[], #[.agg #[.slice none 0 0], .int .i64 0, .int .i64 0], []⟩ 8 (by kernel_rfl) (by kernel_rfl) (by kernel_rfl) (by kernel_rfl)) ?_
  intro W base args ds gs before hval0 hW _ _
  have hval : ∀ (j : Nat) t v, Try.f9.params[j]? = some t → args[j]? = some v → Value.okWide Try.prog W .any base t v := hval0
  have hW' := hW
  obtain ⟨p, q, hA0, hV, rfl, _, _⟩ := hW
  have hA : DataW.TrodAll enc Try.prog W 0 (fun _ => true) true Try.f9.params.toList args.toList ds p := hA0
  rw [Try.params9] at hA hval
  obtain ⟨v0, v1, v2, d0, d1, d2, p0, p1, p2, rfl, rfl, rfl, h0, h1, h2⟩ := trodAll_three hA
  obtain ⟨rfl, rfl⟩ := trodVars_none hV
  obtain ⟨b, d, ns, rfl, hn, hs'⟩ := prof_opened (hval 0 51 v0 rfl rfl) h0
  obtain ⟨t, rfl⟩ := okWide_int Try.underlying3 (hval 1 3 v1 rfl rfl)
  obtain ⟨u, rfl⟩ := okWide_int Try.underlying3 (hval 2 3 v2 rfl rfl)
  clear hA0 hval0
  simp only [List.append_nil] at hW'
  refine (walk b d ns t u hn W hs').mono fun e W' ⟨he, hg⟩ => ?_
  subst he
  have hlt : ∀ x ∈ p0 ++ p1 ++ p2, x.block < W.heap.size := fun x hx => by simpa using hW'.lt x hx
  have harg := Below.trod laidOutAll (by kernel_rfl) (of_decide_eq_true (by kernel_rfl)) h0 hg (fun x hx => hlt x (List.mem_append_left _ (List.mem_append_left _ hx)))
  have harg1 := Below.trod laidOutAll (by kernel_rfl) (of_decide_eq_true (by kernel_rfl)) h1 hg (fun x hx => hlt x (List.mem_append_left _ (List.mem_append_right _ hx)))
  have harg2 := Below.trod laidOutAll (by kernel_rfl) (of_decide_eq_true (by kernel_rfl)) h2 hg (fun x hx => hlt x (List.mem_append_right _ hx))
  exact ⟨_, rfl, _, _, _, [], _, [], hW', trodAll_mk1 (shut_bool Try.underlying4 _), trodAll_mk3 harg harg1 harg2, rfl, hg.frame _, fun h => by cases h⟩
end LawProfMin

/-- For every profile: the law returns true, and it reads as it did. -/
theorem fnExactProfMin_holds : Rows.FnExactProfMinSaid :=
  OpenClaim.holds_of_wide 9 Try.f9 rfl rfl rfl rfl rfl rfl rfl ⟨rfl, rfl, rfl, rfl, rfl⟩ rfl rfl rfl rfl rfl (by kernel_rfl) Try.func9 (by kernel_rfl)
    (of_decide_eq_true (by kernel_rfl)) (by unfold Func.isWrapper; rw [if_neg (of_decide_eq_false (by kernel_rfl))]; exact ⟨rfl, rfl⟩)
    (fun os started H enc _ => LawProfMin.lifted os started H enc)
#print axioms fnExactProfMin_holds
end Go.Proofs.Ytleemkolcciokaa
