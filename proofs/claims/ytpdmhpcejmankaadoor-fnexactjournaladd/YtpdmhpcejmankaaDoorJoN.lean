/- JournalCrash: the program's and the specification's. -/
import Derived.Test.YtpdmhpcejmankaaDoorJoM
namespace Go.Proofs.YtpdmhpcejmankaaDoor
open Go.ChangeShapes Go.WideShapes Go.ChangeAt Go.RowKit
open Go.Joins (ownsRow_forms)

/-- How many bytes a crash leaves. -/
def crN (n : Nat) (s keep : Int) : Nat := (s + min (max keep 0) ((n : Int) - s)).toNat

theorem jok_parts {l : List UInt8} {s k : Int} (h : jokB l s k = true) : 0 ≤ s ∧ s ≤ (l.length : Int) ∧ l.length ≤ 40000 ∧ ((rdR l).1.length : Int) = k ∧ (rdR l).2 = l.length := by
  unfold jokB at h
  simp only [Bool.and_eq_true, decide_eq_true_eq] at h
  omega

theorem cr_le (n : Nat) (s keep : Int) : crN n s keep ≤ n := by
  unfold crN
  omega

theorem JA.upto {w : World} {a : Option Addr} {c : Nat} {l : List UInt8} (h : JA w a c l) (j : Nat) : JA w a c (l.take j) :=
  ⟨h.bytes.upto j, by rw [List.length_take]; have := h.le; omega, h.nilc, h.old⟩

set_option maxHeartbeats 4000000 in
set_option maxRecDepth 100000 in
theorem implJournalCrash_c (w : World) (a : Option Addr) (c : Nat) (l : List UInt8) (s k keep : Int) (ok : Bool) (hok : jokB l s k = ok) (h : JA w a c l) (he : EnvJ w) (hl : l.length ≤ 1048576) (hk1 : -9223372036854775808 ≤ keep) (hk2 : keep ≤ 9223372036854775807) :
    Calls Tryd.prog 16 #[.agg #[.slice a l.length c, .int .i64 s, .int .i64 k], .int .i64 keep] w fun e w' =>
      ∃ v, e = .returned v ∧ Ans w.heap.size w'.heap.size w' (bys (bif ok then l.take (crN l.length s keep) else [])) v ∧ Below w.heap.size w w' := by
  have H : Hid (JA w a c l) := h
  have HE : Hid (EnvJ w) := he
  have HOK : Hid (jokB l s k = ok) := hok
  have HV0 : Hid (Row (w.alloc (.cells #[.slice a l.length c, .int .i64 s, .int .i64 k] 24)) w.heap.size [.slice a l.length c, .int .i64 s, .int .i64 k] ∧ Below w.heap.size w (w.alloc (.cells #[.slice a l.length c, .int .i64 s, .int .i64 k] 24))) := jbox w a l.length c s k
  clear h he hok
  go_enter Tryd.func16, Tryd.ntmps16
  go_wp2_with fail
  generalize w.alloc (.cells #[.slice a l.length c, .int .i64 s, .int .i64 k] 24) = V at HV0
  have HA : Hid (Row V w.heap.size [.slice a l.length c, .int .i64 s, .int .i64 k]) := HV0.out.1
  have HV : Hid (Below w.heap.size w V) := HV0.out.2
  clear HV0
  refine (implJournalOk_c V a c l s k (H.out.below HV.out) (HE.out.on HV.out) hl).mono ?_
  rintro e w1 ⟨rfl, hb⟩
  rw [HOK.out]
  have HB1 : Hid (Below w.heap.size w w1) := below_then HV.out hb
  have HA1 : Hid (Row w1 w.heap.size [.slice a l.length c, .int .i64 s, .int .i64 k]) := HA.out.below hb
  have t0 := HA1.out.cell 0 _ rfl
  have t1 := HA1.out.cell 1 _ rfl
  clear hb HA
  cases ok
  · go_wp2_with fail
    go_ret
    exact ⟨_, rfl, ⟨none, 0, rfl, .inl rfl⟩, HB1.out⟩
  · obtain ⟨h0, h1, h2, _, _⟩ := jok_parts HOK.out
    have hcl : l.length ≤ c := H.out.le
    have hm0 : 0 ≤ s + min (max keep 0) ((l.length : Int) - s) := by omega
    have hmc : s + min (max keep 0) ((l.length : Int) - s) ≤ (c : Int) := by omega
    have HC : Hid (∀ W, JA W a c l → Calls Tryd.prog 48 #[.slice a (s + min (max keep 0) ((l.length : Int) - s)).toNat c] W fun e w' => ∃ v, e = .returned v ∧ Ans W.heap.size w'.heap.size w' (bys (l.take (crN l.length s keep))) v ∧ Below W.heap.size W w') := fun W hW => by
      have := clone_bytes W a c (l.take (crN l.length s keep)) (hW.upto _) (by rw [List.length_take]; omega)
      rw [List.length_take, Nat.min_eq_left (cr_le _ _ _)] at this
      exact this
    clear hcl
    go_wp2_with fail
    refine (HC.out w1 (H.out.below HB1.out)).mono ?_
    rintro e w2 ⟨v, rfl, hans, hb2⟩
    have HL : Hid (Ans w1.heap.size w2.heap.size w2 (bys (l.take (crN l.length s keep))) v ∧ Below w1.heap.size w1 w2) := ⟨hans, hb2⟩
    have hsz : w.heap.size ≤ w1.heap.size := HB1.out.size
    clear hans hb2
    go_wp2_with fail
    go_ret
    exact ⟨v, rfl, HL.out.1.wide hsz (Nat.le_refl _), below_then HB1.out HL.out.2⟩

set_option maxHeartbeats 4000000 in
set_option maxRecDepth 100000 in
theorem specJournalCrash_c (w : World) (g : Nat) (l : List UInt8) (s k keep : Int) (ok : Bool) (hok : jokB l s k = ok) (h : Row w g (bys l)) (hl : l.length ≤ 1048576) (hk1 : -9223372036854775808 ≤ keep) (hk2 : keep ≤ 9223372036854775807) :
    Calls Tryd.prog 33 #[.agg #[.slice (some ⟨g, 0, none⟩) l.length l.length, .int .i64 s, .int .i64 k], .int .i64 keep] w fun e w' =>
      ∃ v, e = .returned v ∧ Ans w.heap.size w'.heap.size w' (bys (bif ok then l.take (crN l.length s keep) else [])) v ∧ Below w.heap.size w w' := by
  have H : Hid (JA w (some ⟨g, 0, none⟩) l.length l) := JA.of_row h
  have HG : Hid (Row w g (bys l)) := h
  have HOK : Hid (jokB l s k = ok) := hok
  have HV0 : Hid (Row (w.alloc (.cells #[.slice (some ⟨g, 0, none⟩) l.length l.length, .int .i64 s, .int .i64 k] 24)) w.heap.size [.slice (some ⟨g, 0, none⟩) l.length l.length, .int .i64 s, .int .i64 k] ∧ Below w.heap.size w (w.alloc (.cells #[.slice (some ⟨g, 0, none⟩) l.length l.length, .int .i64 s, .int .i64 k] 24))) := jbox w _ l.length l.length s k
  clear h hok
  go_enter Tryd.func33, Tryd.ntmps33
  go_wp2_with fail
  generalize w.alloc (.cells #[.slice (some ⟨g, 0, none⟩) l.length l.length, .int .i64 s, .int .i64 k] 24) = V at HV0
  have HA : Hid (Row V w.heap.size [.slice (some ⟨g, 0, none⟩) l.length l.length, .int .i64 s, .int .i64 k]) := HV0.out.1
  have HV : Hid (Below w.heap.size w V) := HV0.out.2
  clear HV0
  refine (specJournalOk_c V _ l.length l s k (H.out.below HV.out) hl).mono ?_
  rintro e w1 ⟨rfl, hb⟩
  rw [HOK.out]
  have HB1 : Hid (Below w.heap.size w w1) := below_then HV.out hb
  have HA1 : Hid (Row w1 w.heap.size [.slice (some ⟨g, 0, none⟩) l.length l.length, .int .i64 s, .int .i64 k]) := HA.out.below hb
  have t0 := HA1.out.cell 0 _ rfl
  have t1 := HA1.out.cell 1 _ rfl
  clear hb HA
  cases ok
  · go_wp2_with fail
    go_ret
    exact ⟨_, rfl, ⟨none, 0, rfl, .inl rfl⟩, HB1.out⟩
  · obtain ⟨h0, h1, h2, _, _⟩ := jok_parts HOK.out
    obtain ⟨i0, hi, hz0, hz1, hz2⟩ := info_parts infoByte
    have hsz : w.heap.size ≤ w1.heap.size := HB1.out.size
    have HG1 : Hid (Row w1 g (bys l)) := HG.out.below HB1.out
    have hnl : crN l.length s keep ≤ l.length := cr_le _ _ _
    have hlen : (bys (l.take (crN l.length s keep))).length = crN l.length s keep := by rw [bys_len, List.length_take]; omega
    have HN : Hid (∀ (W : World), Row W g (bys l) → ∀ j u, (bys (l.take (crN l.length s keep)))[j]? = some u → W.cell? ((⟨g, 0, none⟩ : Addr).add j) = some u) := fun W hW j u hj => by
      rw [add_plain, Nat.zero_add]
      rw [bys_get, List.getElem?_take] at hj
      split at hj
      · exact hW.cell j u (by rw [bys_get]; exact hj)
      · cases hj
    have H1c : Hid (∀ u ∈ bys (l.take (crN l.length s keep)), u.oneCell' = true) := fun u hu => by obtain ⟨b, _, rfl⟩ := List.mem_map.1 hu; rfl
    have hlt1 : w.heap.size < w1.heap.size := HA1.out.lt
    have hne1 : w.heap.size ≠ w1.heap.size := by omega
    have HW0 : Hid (Row (w1.alloc (.cells #[] 5)) g (bys l)) := HG1.out.below (low_alloc _ _)
    by_cases c0 : keep < 0
    · have hn : ¬ ((l.length : Int) - s < 0) := by omega
      have HK : Hid (s.toNat = crN l.length s keep) := by show _ = _; unfold crN; omega
      go_wp2_with (at_builtin; refine wpList_append_own _ rfl _ _ 22 rfl w1.heap.size 5 i0 (.int .u8 0) 1 1 Tryd.underlying22 hi hz0 hz1 hz2 rfl (by decide) _ _ _ rfl (World.ownsRow_made w1 #[] 0 (Nat.le_refl _) (by decide) rfl) ⟨g, 0, none⟩ (crN l.length s keep) l.length (bys (l.take (crN l.length s keep))) (by rw [← HK.out]; rfl) (by rw [hlen]; omega) (HN.out _ HW0.out) H1c.out (by unfold maxLen; omega) (by omega) (by simp) ?_)
      intro v' w2 hown hgrow _
      have HL : Hid (Ans w1.heap.size w2.heap.size w2 (bys (l.take (crN l.length s keep))) v' ∧ Below w.heap.size w w2) := ⟨Ans.of_owns (by simpa using hown), (HB1.out.alloc hsz _).grown hgrow (by simp; omega) (fun q hq => by simp [Value.ownBlock] at hq; omega)⟩
      clear hown hgrow
      go_wp2_with fail
      go_ret
      exact ⟨v', rfl, HL.out.1.wide hsz (Nat.le_refl _), HL.out.2⟩
    · by_cases c1 : (l.length : Int) - s < keep
      · have HK : Hid ((s + ((l.length : Int) - s)).toNat = crN l.length s keep) := by show _ = _; unfold crN; omega
        have hq0 : 0 ≤ s + ((l.length : Int) - s) := by omega
        have hq1 : s + ((l.length : Int) - s) ≤ (l.length : Int) := by omega
        go_wp2_with (at_builtin; refine wpList_append_own _ rfl _ _ 22 rfl w1.heap.size 5 i0 (.int .u8 0) 1 1 Tryd.underlying22 hi hz0 hz1 hz2 rfl (by decide) _ _ _ rfl (World.ownsRow_made w1 #[] 0 (Nat.le_refl _) (by decide) rfl) ⟨g, 0, none⟩ (crN l.length s keep) l.length (bys (l.take (crN l.length s keep))) (by rw [← HK.out]; rfl) (by rw [hlen]; omega) (HN.out _ HW0.out) H1c.out (by unfold maxLen; omega) (by omega) (by simp) ?_)
        intro v' w2 hown hgrow _
        have HL : Hid (Ans w1.heap.size w2.heap.size w2 (bys (l.take (crN l.length s keep))) v' ∧ Below w.heap.size w w2) := ⟨Ans.of_owns (by simpa using hown), (HB1.out.alloc hsz _).grown hgrow (by simp; omega) (fun q hq => by simp [Value.ownBlock] at hq; omega)⟩
        clear hown hgrow
        go_wp2_with fail
        go_ret
        exact ⟨v', rfl, HL.out.1.wide hsz (Nat.le_refl _), HL.out.2⟩
      · have HK : Hid ((s + keep).toNat = crN l.length s keep) := by show _ = _; unfold crN; omega
        have hq0 : 0 ≤ s + keep := by omega
        have hq1 : s + keep ≤ (l.length : Int) := by omega
        go_wp2_with (at_builtin; refine wpList_append_own _ rfl _ _ 22 rfl w1.heap.size 5 i0 (.int .u8 0) 1 1 Tryd.underlying22 hi hz0 hz1 hz2 rfl (by decide) _ _ _ rfl (World.ownsRow_made w1 #[] 0 (Nat.le_refl _) (by decide) rfl) ⟨g, 0, none⟩ (crN l.length s keep) l.length (bys (l.take (crN l.length s keep))) (by rw [← HK.out]; rfl) (by rw [hlen]; omega) (HN.out _ HW0.out) H1c.out (by unfold maxLen; omega) (by omega) (by simp) ?_)
        intro v' w2 hown hgrow _
        have HL : Hid (Ans w1.heap.size w2.heap.size w2 (bys (l.take (crN l.length s keep))) v' ∧ Below w.heap.size w w2) := ⟨Ans.of_owns (by simpa using hown), (HB1.out.alloc hsz _).grown hgrow (by simp; omega) (fun q hq => by simp [Value.ownBlock] at hq; omega)⟩
        clear hown hgrow
        go_wp2_with fail
        go_ret
        exact ⟨v', rfl, HL.out.1.wide hsz (Nat.le_refl _), HL.out.2⟩
end Go.Proofs.YtpdmhpcejmankaaDoor
