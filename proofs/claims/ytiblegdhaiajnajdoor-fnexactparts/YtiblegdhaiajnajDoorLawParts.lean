/- FnExactParts: for every text and byte the program's Parts answers as the specification's; the listed variables of the library lie as its text lays them. -/
import Derived.Test.YtiblegdhaiajnajDoorWrap
import Derived.Test.YtiblegdhaiajnajDoorPartsB
import Derived.Test.YtiblegdhaiajnajDoorSlT
import Derived.Test.YtiblegdhaiajnajDoorCards
import Derived.Test.YtiblegdhaiajnajDoorTie
import Derived.SevenTiedAt
namespace Go.Proofs.YtiblegdhaiajnajDoor
namespace LawParts
open Go.ChangeShapes Go.WideShapes Go.ChangeAt Go.RowKit
open Go.WideMaps Go.WideElems
open Go.ChangeMaps (open_string shut_string)

theorem drewN_below (w : World) (n : Nat) : Below w.heap.size w (w.drewN n) := ⟨rfl, rfl, rfl, Nat.le_refl _, fun _ _ => rfl⟩

set_option maxHeartbeats 1000000 in
theorem walk (s : ByteArray) (b : UInt8) (w : World) (hs : s.size ≤ maxLen) (hm : MaxL w) :
    Calls Tryd.prog 7 #[.string s, .int .u8 (b.toNat : Int)] w fun e w' => e = .returned (.bool true) ∧ Below w.heap.size w w' := by
  have Hm : Hid (MaxL w) := hm
  clear hm
  by_cases hl : 1048576 < s.size
  · unfold maxLen at hs
    go_enter Tryd.func7, Tryd.ntmps7
    go_wp2_with fail
    go_ret
    exact ⟨rfl, Below.refl _ _⟩
  · have hl' : s.size ≤ 1048576 := by omega
    have HL : Hid ((pcs b s.data.toList).length ≤ s.size + 1) := pcs_count b s.data.toList
    clear hl hs
    go_enter Tryd.func7, Tryd.ntmps7
    go_wp2_with fail
    refine (specParts_c s b hl' _).mono ?_
    rintro e w1 ⟨gs, cs, rfl, hgs, hrs, hb1⟩
    have HB1 : Hid (Below w.heap.size w w1) := hb1
    have HS1 : Hid (Row w1 gs (strs (pcs b s.data.toList))) := hrs
    clear hb1 hrs
    go_wp2_with fail
    refine (implParts_c s b hl' _ (Hm.out.on HB1.out)).mono ?_
    rintro e w2 ⟨gi, ci, rfl, hgi, hri, hb2⟩
    have HB2 : Hid (Below w.heap.size w w2) := below_then HB1.out hb2
    have HS2 : Hid (Row w2 gs (strs (pcs b s.data.toList))) := HS1.out.below hb2
    have HI2 : Hid (Row w2 gi (strs (pcs b s.data.toList))) := hri
    have hne : gs ≠ gi := by have := HS1.out.lt; omega
    have hgi' : w.heap.size ≤ gi := by have := HB1.out.size; omega
    clear hb2 hri HS1 hgi
    go_wp2_with fail
    refine (eqStringS_yes gi gs ci cs _ (by have := HL.out; omega) _ HI2.out HS2.out).mono ?_
    rintro e w3 ⟨rfl, n3, rfl⟩
    have HB3 : Hid (Below w.heap.size w (w2.drewN n3)) := below_then HB2.out (drewN_below _ _)
    have HS3 : Hid (Row (w2.drewN n3) gs (strs (pcs b s.data.toList))) := HS2.out.below (drewN_below _ _)
    have HI3 : Hid (Row (w2.drewN n3) gi (strs (pcs b s.data.toList))) := HI2.out.below (drewN_below _ _)
    clear HB2 HS2 HI2
    go_wp2_with fail
    refine (mark_from_one gi ci _ (by have := HL.out; omega) _ HI3.out).mono ?_
    rintro e w4 ⟨rfl, hg4, hr4⟩
    have HB4 : Hid (Below w.heap.size w w4) := HB3.out.grown hg4 HB3.out.size (fun q hq => by cases hq; exact hgi')
    have HS4 : Hid (Row w4 gs (strs (pcs b s.data.toList))) := HS3.out.far hg4 (by simpa using hne)
    have HI4 : Hid (Row w4 gi (marks 1 (pcs b s.data.toList).length)) := hr4
    clear HB3 HS3 HI3 hg4 hr4
    have hlen : (pcs b s.data.toList).length ≤ 1048577 := by have := HL.out; omega
    go_wp2_with fail
    refine (held_from_one gi ci _ (by omega) _ HI4.out).mono ?_
    rintro e w5 ⟨rfl, hb5⟩
    have HB5 : Hid (Below w.heap.size w w5) := below_then HB4.out hb5
    have HS5 : Hid (Row w5 gs (strs (pcs b s.data.toList))) := HS4.out.below hb5
    have HI5 : Hid (Row w5 gi (marks 1 (pcs b s.data.toList).length)) := HI4.out.below hb5
    clear HB4 HS4 HI4 hb5
    go_wp2_with fail
    refine (implParts_c s b hl' _ (Hm.out.on HB5.out)).mono ?_
    rintro e w6 ⟨gh, ch, rfl, _, hrh, hb6⟩
    have HB6 : Hid (Below w.heap.size w w6) := below_then HB5.out hb6
    have HS6 : Hid (Row w6 gs (strs (pcs b s.data.toList))) := HS5.out.below hb6
    have HI6 : Hid (Row w6 gi (marks 1 (pcs b s.data.toList).length)) := HI5.out.below hb6
    have HH6 : Hid (Row w6 gh (strs (pcs b s.data.toList))) := hrh
    clear HB5 HS5 HI5 hb6 hrh
    go_wp2_with fail
    refine (eqStringS_yes gh gs ch cs _ (by omega) _ HH6.out HS6.out).mono ?_
    rintro e w7 ⟨rfl, n7, rfl⟩
    have HB7 : Hid (Below w.heap.size w (w6.drewN n7)) := below_then HB6.out (drewN_below _ _)
    have HI7 : Hid (Row (w6.drewN n7) gi (marks 1 (pcs b s.data.toList).length)) := HI6.out.below (drewN_below _ _)
    clear HB6 HS6 HI6 HH6
    go_wp2_with fail
    refine (held_from_one gi ci _ (by omega) _ HI7.out).mono ?_
    rintro e w8 ⟨rfl, hb8⟩
    have HB8 : Hid (Below w.heap.size w w8) := below_then HB7.out hb8
    go_wp2_with fail
    go_ret
    exact ⟨rfl, HB8.out⟩

set_option maxRecDepth 100000 in
theorem lifted (os : Os) (started : os.Started) (H : Type) (enc : TypeId × Value → H) :
    ReturnsInHanded {} Tryd.checked os 7 .any (fun w args => (Rows.fnExactPartsSpec.pre enc Tryd.prog Tryd.f7 [] false w args ∧ laidMetH Tryd.prog Rows.fnExactPartsRow.laid w) ∧ sizedMet enc Tryd.prog Tryd.f7 (OpenSpec.ofChange Rows.fnExactPartsSpec) false w args)
      (Rows.fnExactPartsSpec.post enc Tryd.prog Tryd.f7 false true false false) := by
  refine handed (laid := Rows.fnExactPartsRow.laid) started (by kernel_rfl) Tryd.func7
    (ChangeSpec.witness_shaped (enc := enc) (C := Tryd.checked) (os := os) (X := fun w _ => laidMetH Tryd.prog Rows.fnExactPartsRow.laid w) false (World.laidAll Tryd.prog os Rows.fnExactPartsRow.laid) #[.string ByteArray.empty, .int .u8 0] 8 (World.laidAll_os _ _ _)
      (World.shaped_of_ZipB (by kernel_rfl) (by kernel_rfl)) (by kernel_rfl) (by kernel_rfl) (by kernel_rfl)
      (by rw [MakeChecks.laidMetH_plain _ _ _ (by kernel_rfl)]; exact laidMet_laidAll _ (by kernel_rfl) (by kernel_rfl))) ?_
  intro W base args ds gs before hval0 hW _ hsh
  have hval : ∀ (j : Nat) t v, Tryd.f7.params[j]? = some t → args[j]? = some v → Value.okWide Tryd.prog W .any base t v := hval0
  have hW' := hW
  obtain ⟨p, q, hA0, hV, rfl, hfz, hnd⟩ := hW
  have hA : DataW.TrodAll enc Tryd.prog W 0 (fun _ => true) true Tryd.f7.params.toList args.toList ds p := hA0
  rw [Tryd.params7] at hA hval
  obtain ⟨v0, v1, d0, d1, p0, p1, rfl, rfl, rfl, h0, h1⟩ := trodAll_two hA
  obtain ⟨rfl, rfl⟩ := trodVars_none hV
  obtain ⟨s, rfl, rfl, rfl, hs⟩ := open_string Tryd.underlying9 (hval 0 9 v0 rfl rfl) h0
  obtain ⟨n, rfl, rfl, rfl, wn⟩ := open_int Tryd.underlying5 (hval 1 5 v1 rfl rfl) h1
  clear hA0 hval0
  simp only [List.append_nil] at hW'
  have hn := bounds_u8 wn
  obtain ⟨b, rfl⟩ : ∃ b : UInt8, n = (b.toNat : Int) := ⟨UInt8.ofNat n.toNat, by simp; omega⟩
  refine (walk s b W hs (Tryd.laysM146.s1_3 W hsh)).mono fun e W' ⟨he, hg⟩ => ?_
  subst he
  exact ⟨_, rfl, _, _, _, [], [], [], hW', trodAll_mk1 (shut_bool Tryd.underlying4 _), trodAll_mk2 (shut_string Tryd.underlying9 hs) (shut_int Tryd.underlying5 wn), rfl, hg.frame _, fun h => by cases h⟩
end LawParts

theorem fnExactParts_row : Rows.FnExactPartsSaid :=
  OpenClaim.holds_of_wide 7 Tryd.f7 rfl rfl rfl rfl rfl rfl rfl ⟨rfl, rfl, rfl, rfl, rfl⟩ rfl rfl rfl rfl rfl (by kernel_rfl) Tryd.func7 (by kernel_rfl)
    (of_decide_eq_true (by kernel_rfl)) (by unfold Func.isWrapper; rw [if_neg (of_decide_eq_false (by kernel_rfl))]; exact ⟨rfl, rfl⟩)
    (fun os started H enc _ => LawParts.lifted os started H enc)

/-- For every text: the law returns true; what it lists is tied to the program's text. -/
theorem fnExactParts_holds : Rows.FnExactPartsCardSaid :=
  Claim7.holds_tied_plain_at .later [] _ true _ _
    fnExactParts_row (fun _ h => by cases h) (by kernel_rfl) (fun _ h => by cases h) fnExactParts_row_tie rfl ⟨rfl, rfl⟩ (by kernel_rfl) rfl
    (fun f fn hf hfn => by
      obtain rfl : f = 7 := Option.some.inj ((show Tryd.prog.funcNamed Rows.fnExactPartsRow.func = some 7 by kernel_rfl).symm.trans hf) |>.symm
      obtain rfl : fn = Tryd.f7 := (Option.some.inj (Tryd.func7.symm.trans hfn)).symm
      exact ⟨by kernel_rfl, fun j t ht => by
        rw [Tryd.params7] at ht
        have hm : t ∈ [9, 5] := by simpa using Array.mem_of_getElem? ht
        have hall : ([9, 5].all fun u => !Tryd.prog.wantsStandIn u) = true := by kernel_rfl
        exact (show Tryd.prog.wantsStandIn t = false by simpa using List.all_eq_true.1 hall t hm)⟩)
    (by kernel_rfl)
#print axioms fnExactParts_holds
end Go.Proofs.YtiblegdhaiajnajDoor
