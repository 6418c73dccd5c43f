/- ReadRecords: the program's. -/
import Derived.Test.YtpdmhpcejmankaaDoorJoE
import Derived.Recover
namespace Go.Proofs.YtpdmhpcejmankaaDoor
open Go.ChangeShapes Go.WideShapes Go.ChangeAt Go.RowKit
open Go.Joins (ownsRow_forms)

theorem catch_panicking (u : Value) (older : List PanicEntry) (w : World) :
    CallsD Tryd.prog 61 #[] (.panicking ({ v := u, recovered := false } :: older)) w fun e u' w' =>
      e = .returned (.tuple #[]) ∧ u' = .panicking ({ v := u, recovered := true } :: older) ∧ w' = w := by
  refine callsD_of_wpS Tryd.func61 rfl fun c₀ cs hu => ?_
  apply wpS_region
  simp [wpOpsS, go_sem, recoverD, hu, bodyPostS, results, Tryd.results61]

theorem catch_idle (w : World) :
    CallsD Tryd.prog 61 #[] .returning w fun e u' w' => e = .returned (.tuple #[]) ∧ u' = .returning ∧ w' = w := by
  refine callsD_of_wpS Tryd.func61 rfl fun c₀ cs hu => ?_
  apply wpS_region
  cases c₀
  simp_all [wpOpsS, go_sem, recoverD, bodyPostS, results, Tryd.results61]

/-- How many bytes are left in the reader's box. -/
def leftOf (w : World) (R : Nat) : Nat :=
  match w.cell? ⟨R, 0, none⟩ with
  | some (.slice _ n _) => n
  | _ => 0

theorem leftOf_row {w : World} {R n c : Nat} {p : Option Addr} {xs : List Value} (h : Row w R (.slice p n c :: xs)) : leftOf w R = n := by
  unfold leftOf
  rw [h.cell 0 _ rfl]

set_option maxHeartbeats 2000000 in
theorem readAll_c (V W : World) (R : Nat) (l : List UInt8) (p : Option Addr) (c : Nat) (h : RS V W R l p c [] (.slice none 0 0) 0) (he : EnvJ V) (hbig : l.length ≤ 1048576) :
    Calls Tryd.prog 45 #[.pointer (some ⟨R, 0, none⟩)] W fun e w' => e = .returned (.tuple #[]) ∧ ∃ v, RT V w' R (rdR l).1 v (rdR l).2 := by
  have hmf : ∀ (fn : Fn) (first cap : Array Value) (w : World), (Instr.makeFunc fn first cap).run Tryd.prog w = .ok (.func fn first cap) w := fun _ _ _ _ => rfl
  have H : Hid (RS V W R l p c [] (.slice none 0 0) 0) := h
  have HE : Hid (EnvJ V) := he
  clear h he
  go_enter_defers Tryd.func45, Tryd.ntmps45
  go_wp2_with fail
  go_loopw [] (fun wr => ∃ (l' : List UInt8) (p' : Option Addr) (c' : Nat) (acc : List (List UInt8)) (v : Value) (k : Nat), RS V wr R l' p' c' acc v k ∧ RdI l acc k ∧ l.drop k = l') (fun wr => leftOf wr R)
  case atStart => exact ⟨l, p, c, [], _, 0, H.out, rd_start l, rfl⟩
  case round =>
    obtain ⟨l', p', c', acc, v, k, hrs, hrd, hl'⟩ := hrel
    have HR : Hid (RS V wr R l' p' c' acc v k) := hrs
    have HD : Hid (RdI l acc k) := hrd
    have HL : Hid (l.drop k = l') := hl'
    have c0 := hrs.box.cell 0 _ rfl
    have hle : l'.length ≤ 1048576 := by rw [← hl', List.length_drop]; omega
    have hk : k ≤ 1048576 := by have := hrd.1; omega
    have ha : acc.length ≤ 1048576 := by have := hrd.2.1; omega
    have HM : Hid (leftOf wr R = l'.length) := leftOf_row hrs.box
    clear hrs hrd hl'
    by_cases h0 : l'.length = 0
    · have HS : Hid (rdR l = (acc, k)) := rd_stop HD.out (by
        rw [HL.out, List.eq_nil_of_length_eq_zero h0]
        cases e : rec1 acc.length [] with
        | none => rfl
        | some q =>
          obtain ⟨t, r⟩ := q
          have := congrArg List.length (rec1_some e).1
          simp at this)
      go_wp2_with fail
      refine leaves_cons (f := 61) (args := #[]) (by simp) (by simp [go_sem]) ?_
      refine (catch_idle _).mono ?_
      rintro e u' w'' ⟨rfl, rfl, rfl⟩
      refine ⟨_, results_none rfl _ _ _, rfl, v, ?_⟩
      rw [HS.out]
      exact HR.out.rt
    · have h0' : (0 : Int) < (l'.length : Int) := by omega
      go_wp2_with fail
      cases h1 : rec1 acc.length l' with
      | none =>
        have HS : Hid (rdR l = (acc, k)) := rd_stop HD.out (by rw [HL.out]; exact h1)
        refine (record_no V wr R l' p' c' acc v k HR.out HE.out h1 hle).mono ?_
        rintro e w1 ⟨⟨pv, rfl⟩, ht⟩
        refine leaves_cons (f := 61) (args := #[]) (by simp) (by simp [go_sem]) ?_
        refine (catch_panicking _ [] _).mono ?_
        rintro e u' w'' ⟨rfl, rfl, rfl⟩
        show Leaves Tryd.prog _ _ _ [] .returning _
        simp only [Leaves]
        refine ⟨_, results_none rfl _ _ _, rfl, v, ?_⟩
        rw [HS.out]
        exact ht
      | some q =>
        obtain ⟨t, r⟩ := q
        refine (record_yes V wr R l' p' c' acc v k t r HR.out HE.out h1 hle hk ha).mono ?_
        rintro e w1 ⟨rfl, p2, c2, v2, h2⟩
        have HR2 : Hid (RS V w1 R r p2 c2 (acc ++ [t]) v2 (k + (l'.length - r.length))) := h2
        have HM2 : Hid (leftOf w1 R = r.length) := leftOf_row h2.box
        clear h2
        go_wp2_with fail
        go_roundw
        case rel =>
          obtain ⟨hd1, hd2, hd3⟩ := rd_more HD.out (by rw [HL.out]; exact h1)
          have hlen := congrArg List.length HL.out
          rw [List.length_drop] at hlen
          have hr := rd_len h1
          have hkk : k + (l'.length - r.length) = l.length - r.length := by have := HD.out.1; omega
          exact ⟨r, p2, c2, acc ++ [t], v2, k + (l'.length - r.length), HR2.out, by rw [hkk]; exact hd1, by rw [hkk]; exact hd3⟩
        case measure =>
          have hr := rd_len h1
          rw [HM.out, HM2.out]
          omega
set_option maxHeartbeats 1000000 in
theorem implReadRecords_c (w : World) (p : Option Addr) (c : Nat) (l : List UInt8) (hl : ByA w p l) (hc : l.length ≤ c) (hpc : p = none → c = 0) (hold : ∀ a, p = some a → a.block < w.heap.size) (he : EnvJ w) (hbig : l.length ≤ 1048576) :
    Calls Tryd.prog 13 #[.slice p l.length c] w fun e w' => ∃ v, e = .returned (.tuple #[v, .int .i64 ((rdR l).2 : Int)]) ∧ w'.ownsRow w.heap.size 9 1 v (rdR l).1.length (strs (rdR l).1) ∧ Below w.heap.size w w' := by
  have Hl : Hid (ByA w p l) := hl
  have HE : Hid (EnvJ w) := he
  clear hl he
  go_enter Tryd.func13, Tryd.ntmps13
  go_wp2_with fail
  generalize hV : w.alloc (.cells #[.slice p l.length c, .slice none 0 0, .int .i64 0] 61) = V
  have HB : Hid (RS w V w.heap.size l p c [] (.slice none 0 0) 0) := by
    subst hV
    have hb : Below w.heap.size w (w.alloc (.cells #[.slice p l.length c, .slice none 0 0, .int .i64 0] 61)) := (Below.refl _ _).alloc (Nat.le_refl _) _
    refine ⟨⟨fun i u hu => ?_, fun i => World.frozen?_alloc_at _ _ _ _ rfl, by go_size⟩, Hl.out.below hb, hc, hpc, hold, ⟨rfl, .inl ⟨rfl, rfl⟩⟩, Nat.le_refl _, hb⟩
    rw [World.cell?_alloc_at _ _ _ _ rfl]
    simpa using hu
  clear hV
  refine (readAll_c w V w.heap.size l p c HB.out HE.out hbig).mono ?_
  rintro e w1 ⟨rfl, v, ⟨x, hrow⟩, hown, _, hg⟩
  have HG : Hid (Below w.heap.size w w1) := hg
  have HO : Hid (w1.ownsRow w.heap.size 9 1 v (rdR l).1.length (strs (rdR l).1)) := Joins.ownsRow_le hown (Nat.le_succ _)
  have c1 := hrow.cell 1 _ rfl
  have c2 := hrow.cell 2 _ rfl
  rcases ownsRow_forms hown with ⟨rfl, hn⟩ | ⟨g, cap, rfl⟩
  all_goals
    clear hrow hown hg HB
    go_wp2_with fail
    go_region
    go_wp2_with fail
    go_ret2
    exact ⟨_, rfl, owns_kept HO.out (drewN_low _ 1), below_then HG.out (drewN_low _ 1)⟩
end Go.Proofs.YtpdmhpcejmankaaDoor
