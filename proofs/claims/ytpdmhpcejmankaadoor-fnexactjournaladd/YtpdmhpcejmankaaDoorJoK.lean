/- JournalOk: the program's and the specification's. -/
import Derived.Test.YtpdmhpcejmankaaDoorJoF
import Derived.Test.YtpdmhpcejmankaaDoorJoH
namespace Go.Proofs.YtpdmhpcejmankaaDoor
open Go.ChangeShapes Go.WideShapes Go.ChangeAt Go.RowKit
open Go.Joins (ownsRow_forms)

/-- A slice of bytes that may be handed on. -/
structure JA (w : World) (a : Option Addr) (c : Nat) (l : List UInt8) : Prop where
  bytes : ByA w a l
  le : l.length ≤ c
  nilc : a = none → c = 0
  old : ∀ x, a = some x → x.block < w.heap.size

theorem JA.below {w w' : World} {a : Option Addr} {c : Nat} {l : List UInt8} (h : JA w a c l) (hb : Below w.heap.size w w') : JA w' a c l :=
  ⟨h.bytes.below hb, h.le, h.nilc, fun x e => Nat.lt_of_lt_of_le (h.old x e) hb.size⟩

/-- A right journal. -/
def jokB (l : List UInt8) (s n : Int) : Bool := (decide (l.length ≤ 40000) && (decide (0 ≤ s) && decide (s ≤ (l.length : Int)))) && (decide (((rdR l).1.length : Int) = n) && decide ((rdR l).2 = l.length))

theorem jok_no {l : List UInt8} {s n : Int} (h : ¬ (l.length ≤ 40000 ∧ 0 ≤ s ∧ s ≤ (l.length : Int))) : jokB l s n = false := by
  unfold jokB
  by_cases h1 : l.length ≤ 40000
  · by_cases h2 : 0 ≤ s
    · have h3 : ¬ s ≤ (l.length : Int) := fun h3 => h ⟨h1, h2, h3⟩
      simp [h3]
    · simp [h2]
  · simp [h1]

theorem jok_yes {l : List UInt8} {s n : Int} (h : l.length ≤ 40000 ∧ 0 ≤ s ∧ s ≤ (l.length : Int)) : jokB l s n = (decide (((rdR l).1.length : Int) = n) && decide ((rdR l).2 = l.length)) := by
  unfold jokB
  simp [h.1, h.2.1, h.2.2]

theorem form_of_owns {w : World} {B n : Nat} {e : TypeId} {v : Value} {xs : List Value} (h : w.ownsRow B e 1 v n xs) : ∃ a cap, v = .slice a n cap := by
  rcases ownsRow_forms h with ⟨rfl, hn⟩ | ⟨g, cap, rfl⟩
  · exact ⟨none, 0, by rw [hn]⟩
  · exact ⟨_, _, rfl⟩

/-- The journal in a box of its own. -/
theorem jbox (w : World) (a : Option Addr) (n c : Nat) (s k : Int) : Row (w.alloc (.cells #[.slice a n c, .int .i64 s, .int .i64 k] 24)) w.heap.size [.slice a n c, .int .i64 s, .int .i64 k] ∧ Below w.heap.size w (w.alloc (.cells #[.slice a n c, .int .i64 s, .int .i64 k] 24)) :=
  ⟨row_fresh w [.slice a n c, .int .i64 s, .int .i64 k] 24, (Below.refl _ _).alloc (Nat.le_refl _) _⟩

set_option maxHeartbeats 2000000 in
set_option maxRecDepth 100000 in
theorem implJournalOk_c (w : World) (a : Option Addr) (c : Nat) (l : List UInt8) (s n : Int) (h : JA w a c l) (he : EnvJ w) (hbig : l.length ≤ 1048576) :
    Calls Tryd.prog 17 #[.agg #[.slice a l.length c, .int .i64 s, .int .i64 n]] w fun e w' => e = .returned (.bool (jokB l s n)) ∧ Below w.heap.size w w' := by
  have H : Hid (JA w a c l) := h
  have HE : Hid (EnvJ w) := he
  obtain ⟨hbx, hbw⟩ := jbox w a l.length c s n
  clear h he
  by_cases hmax : (40000 : Int) < (l.length : Int)
  · have HN : Hid (jokB l s n = false) := jok_no fun h => by omega
    have HW : Hid (Below w.heap.size w (w.alloc (.cells #[.slice a l.length c, .int .i64 s, .int .i64 n] 24))) := hbw
    clear hbx hbw
    go_enter Tryd.func17, Tryd.ntmps17
    go_wp2_with fail
    go_ret
    exact ⟨by rw [HN.out]; rfl, HW.out⟩
  · have HV0 : Hid (Row (w.alloc (.cells #[.slice a l.length c, .int .i64 s, .int .i64 n] 24)) w.heap.size [.slice a l.length c, .int .i64 s, .int .i64 n] ∧ Below w.heap.size w (w.alloc (.cells #[.slice a l.length c, .int .i64 s, .int .i64 n] 24))) := ⟨hbx, hbw⟩
    clear hbx hbw
    go_enter Tryd.func17, Tryd.ntmps17
    go_wp2_with fail
    generalize w.alloc (.cells #[.slice a l.length c, .int .i64 s, .int .i64 n] 24) = V at HV0
    have HA : Hid (Row V w.heap.size [.slice a l.length c, .int .i64 s, .int .i64 n]) := HV0.out.1
    have HV : Hid (Below w.heap.size w V) := HV0.out.2
    have t0 := HA.out.cell 0 _ rfl
    have t1 := HA.out.cell 1 _ rfl
    have t2 := HA.out.cell 2 _ rfl
    clear HV0
    refine (betw_c _ _ _ _).mono ?_
    rintro e w1 ⟨rfl, rfl⟩
    by_cases hb : 0 ≤ s ∧ s ≤ (l.length : Int)
    · have HY : Hid (jokB l s n = (decide (((rdR l).1.length : Int) = n) && decide ((rdR l).2 = l.length))) := jok_yes ⟨by omega, hb.1, hb.2⟩
      have hdb : (decide ((0 : Int) ≤ s) && decide (s ≤ (l.length : Int))) = true := by simp [hb.1, hb.2]
      rw [hdb]
      clear hb hdb
      go_wp2_with fail
      refine (implReadRecords_c w1 a c l (H.out.below HV.out).bytes H.out.le H.out.nilc (H.out.below HV.out).old (HE.out.on HV.out) hbig).mono ?_
      rintro e w2 ⟨v, rfl, hown, hb2⟩
      have HB2 : Hid (Below w.heap.size w w2) := below_then HV.out hb2
      clear t0 t1 t2
      have t0 := (HA.out.below hb2).cell 0 _ rfl
      have t2 := (HA.out.below hb2).cell 2 _ rfl
      obtain ⟨a2, c2, rfl⟩ := form_of_owns hown
      clear hown hb2
      generalize (rdR l).1.length = m at HY ⊢
      generalize (rdR l).2 = q at HY ⊢
      by_cases h1 : (m : Int) = n
      · by_cases h2 : q = l.length
        · have HF : Hid (jokB l s n = true) := by show _ = _; rw [HY.out, h1, h2]; simp
          have hi1 : ((m : Int) == n) = true := by simpa using h1
          have hi2 : ((q : Int) == (l.length : Int)) = true := by rw [beq_iff_eq]; omega
          clear h1 h2
          go_wp2_with fail
          go_ret
          exact ⟨by rw [HF.out]; rfl, HB2.out⟩
        · have HF : Hid (jokB l s n = false) := by show _ = _; rw [HY.out, decide_eq_false h2, Bool.and_false]
          have hi1 : ((m : Int) == n) = true := by simpa using h1
          have hi2 : ((q : Int) == (l.length : Int)) = false := by rw [beq_eq_false_iff_ne]; omega
          clear h1 h2
          go_wp2_with fail
          go_ret
          exact ⟨by rw [HF.out]; rfl, HB2.out⟩
      · have HF : Hid (jokB l s n = false) := by show _ = _; rw [HY.out, decide_eq_false h1, Bool.false_and]
        have hi1 : ((m : Int) == n) = false := by simpa using h1
        clear h1
        go_wp2_with fail
        go_ret
        exact ⟨by rw [HF.out]; rfl, HB2.out⟩
    · have HN : Hid (jokB l s n = false) := jok_no fun h => hb h.2
      have hdb : (decide ((0 : Int) ≤ s) && decide (s ≤ (l.length : Int))) = false := by
        rw [Bool.and_eq_false_iff]
        by_cases h0 : 0 ≤ s
        · right; rw [decide_eq_false]; exact fun h1 => hb ⟨h0, h1⟩
        · left; rw [decide_eq_false h0]
      rw [hdb]
      clear hb hdb
      go_wp2_with fail
      go_ret
      exact ⟨by rw [HN.out]; rfl, HV.out⟩

set_option maxHeartbeats 2000000 in
set_option maxRecDepth 100000 in
theorem specJournalOk_c (w : World) (a : Option Addr) (c : Nat) (l : List UInt8) (s n : Int) (h : JA w a c l) (hbig : l.length ≤ 1048576) :
    Calls Tryd.prog 26 #[.agg #[.slice a l.length c, .int .i64 s, .int .i64 n]] w fun e w' => e = .returned (.bool (jokB l s n)) ∧ Below w.heap.size w w' := by
  have H : Hid (JA w a c l) := h
  obtain ⟨hbx, hbw⟩ := jbox w a l.length c s n
  clear h
  have HV0 : Hid (Row (w.alloc (.cells #[.slice a l.length c, .int .i64 s, .int .i64 n] 24)) w.heap.size [.slice a l.length c, .int .i64 s, .int .i64 n] ∧ Below w.heap.size w (w.alloc (.cells #[.slice a l.length c, .int .i64 s, .int .i64 n] 24))) := ⟨hbx, hbw⟩
  clear hbx hbw
  by_cases hok : l.length ≤ 40000 ∧ 0 ≤ s ∧ s ≤ (l.length : Int)
  · have HY : Hid (jokB l s n = (decide (((rdR l).1.length : Int) = n) && decide ((rdR l).2 = l.length))) := jok_yes hok
    have hmax : ¬ (40000 : Int) < (l.length : Int) := by omega
    have h0 : ¬ s < 0 := by omega
    have h1 : ¬ (l.length : Int) < s := by omega
    clear hok
    go_enter Tryd.func26, Tryd.ntmps26
    go_wp2_with fail
    generalize w.alloc (.cells #[.slice a l.length c, .int .i64 s, .int .i64 n] 24) = V at HV0
    have HA : Hid (Row V w.heap.size [.slice a l.length c, .int .i64 s, .int .i64 n]) := HV0.out.1
    have HV : Hid (Below w.heap.size w V) := HV0.out.2
    clear HV0
    refine (specReadRecords_c V a c l (H.out.below HV.out).bytes H.out.le hbig).mono ?_
    rintro e w2 ⟨v, rfl, hown, hb2⟩
    have HB2 : Hid (Below w.heap.size w w2) := below_then HV.out hb2
    have t0 := (HA.out.below hb2).cell 0 _ rfl
    have t2 := (HA.out.below hb2).cell 2 _ rfl
    obtain ⟨a2, c2, rfl⟩ := form_of_owns hown
    clear hown hb2
    generalize (rdR l).1.length = m at HY ⊢
    generalize (rdR l).2 = q at HY ⊢
    by_cases h2 : q = l.length
    · have hi2 : ((q : Int) == (l.length : Int)) = true := by rw [beq_iff_eq]; omega
      by_cases h1 : (m : Int) = n
      · have HF : Hid (jokB l s n = true) := by show _ = _; rw [HY.out, h1, h2]; simp
        have hi1 : ((m : Int) == n) = true := by simpa using h1
        clear h1 h2
        go_wp2_with fail
        go_ret
        exact ⟨by rw [HF.out]; rfl, HB2.out⟩
      · have HF : Hid (jokB l s n = false) := by show _ = _; rw [HY.out, decide_eq_false h1, Bool.false_and]
        have hi1 : ((m : Int) == n) = false := by simpa using h1
        clear h1 h2
        go_wp2_with fail
        go_ret
        exact ⟨by rw [HF.out]; rfl, HB2.out⟩
    · have HF : Hid (jokB l s n = false) := by show _ = _; rw [HY.out, decide_eq_false h2, Bool.and_false]
      have hi2 : ((q : Int) == (l.length : Int)) = false := by rw [beq_eq_false_iff_ne]; omega
      clear h2
      go_wp2_with fail
      go_ret
      exact ⟨by rw [HF.out]; rfl, HB2.out⟩
  · have HN : Hid (jokB l s n = false) := jok_no hok
    by_cases hmax : (40000 : Int) < (l.length : Int)
    · clear hok
      go_enter Tryd.func26, Tryd.ntmps26
      go_wp2_with fail
      go_ret
      exact ⟨by rw [HN.out]; rfl, HV0.out.2⟩
    · by_cases h0 : s < 0
      · clear hok
        go_enter Tryd.func26, Tryd.ntmps26
        go_wp2_with fail
        go_ret
        exact ⟨by rw [HN.out]; rfl, HV0.out.2⟩
      · have h1 : (l.length : Int) < s := by
          apply Classical.byContradiction
          intro h1
          exact hok ⟨by omega, by omega, by omega⟩
        clear hok
        go_enter Tryd.func26, Tryd.ntmps26
        go_wp2_with fail
        go_ret
        exact ⟨by rw [HN.out]; rfl, HV0.out.2⟩
end Go.Proofs.YtpdmhpcejmankaaDoor
