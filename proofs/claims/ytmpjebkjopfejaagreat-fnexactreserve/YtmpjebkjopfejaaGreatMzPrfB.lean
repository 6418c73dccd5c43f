/- Whether a profile is right: the loop over its points. -/
import Derived.Test.YtmpjebkjopfejaaGreatMzPrfA
import Derived.Test.YtmpjebkjopfejaaGreatMgRb
namespace Go.Proofs.YtmpjebkjopfejaaGreat
open Go.ChangeShapes Go.WideShapes Go.ChangeAt Go.RowKit

theorem same_comm (a b c x y z : Int) : (a == x && (b == y && c == z)) = (x == a && (y == b && z == c)) := by
  rw [Bool.eq_iff_iff]; simp; omega

/-- The first j points are right. -/
structure PTo (ns : List Nd) (j : Nat) : Prop where
  each : ∀ (i : Nat) n, i < j → ns[i]? = some n → timeB n.l = true ∧ vokB n.a n.b n.c = true
  step : ∀ (i : Nat) m n, i + 1 < j → ns[i]? = some m → ns[i + 1]? = some n → m.l < n.l ∧ sameV m n = false

theorem PTo.start (ns : List Nd) : PTo ns 0 := ⟨fun _ _ h => by omega, fun _ _ _ h => by omega⟩
theorem PTo.all {ns : List Nd} {j : Nat} (h : PTo ns j) (hj : ns.length ≤ j) (h1 : 1 ≤ ns.length) (h2 : ns.length ≤ 200) (h3 : ∀ n, ns[0]? = some n → n.l = 0) : POk ns :=
  ⟨h1, h2, h3, fun i n hi => h.each i n (by have := (List.getElem?_eq_some_iff.1 hi).1; omega) hi, fun i m n hm hn => h.step i m n (by have := (List.getElem?_eq_some_iff.1 hn).1; omega) hm hn⟩
theorem PTo.first {ns : List Nd} {n : Nd} (hn : ns[0]? = some n) (h1 : timeB n.l = true) (h2 : vokB n.a n.b n.c = true) : PTo ns 1 :=
  ⟨fun i m hi hm => by obtain rfl : i = 0 := by omega
                       rw [hn] at hm; cases hm; exact ⟨h1, h2⟩, fun _ _ _ h => by omega⟩
theorem PTo.next {ns : List Nd} {i : Nat} {m n : Nd} (h : PTo ns (i + 1)) (hm : ns[i]? = some m) (hn : ns[i + 1]? = some n) (h1 : timeB n.l = true) (h2 : vokB n.a n.b n.c = true) (h3 : m.l < n.l) (h4 : sameV m n = false) : PTo ns (i + 1 + 1) := by
  refine ⟨fun k x hk hx => ?_, fun k x y hk hx hy => ?_⟩
  · by_cases e : k = i + 1
    · subst e; rw [hn] at hx; cases hx; exact ⟨h1, h2⟩
    · exact h.each k x (by omega) hx
  · by_cases e : k = i
    · subst e; rw [hm] at hx; rw [hn] at hy; cases hx; cases hy; exact ⟨h3, h4⟩
    · exact h.step k x y (by omega) hx hy

set_option maxHeartbeats 4000000 in
set_option maxRecDepth 100000 in
theorem specProfOk_main (b : Option Addr) (d : Nat) (ns : List Nd) (w : World) (h : Sq w b (flat ns)) (h0 : 1 ≤ ns.length) (h1 : ns.length ≤ 200) (h3 : ∀ n, ns[0]? = some n → n.l = 0) :
    Calls Tryz.prog 74 #[.agg #[.slice b ns.length d]] w (Says w (POk ns)) := by
  have hi : ¬ (ns.length : Int) < 1 := by omega
  have hi' : ¬ 200 < (ns.length : Int) := by omega
  have hi3 : (0 : Int) < (ns.length : Int) := by omega
  have HT : Hid (∀ n, ns[0]? = some n → n.l = 0) := h3
  have H : Hid (Sq w b (flat ns)) := h
  obtain ⟨p, rfl, c0, _⟩ := (h.below (low_alloc w (.cells #[.slice b ns.length d] 44))).node 0 h0
  rw [h3 ns[0] (List.getElem?_eq_getElem h0), show p.add (0 * 4) = p from rfl] at c0
  clear h3 h
  go_enter Tryz.func74, Tryz.ntmps74
  go_wp2_with fail
  generalize hV : w.alloc (.cells #[.slice (some p) ns.length d] 44) = V at c0
  have HA : Hid (Row V w.heap.size [.slice (some p) ns.length d]) := by subst hV; exact row_fresh w [.slice (some p) ns.length d] 44
  have HV : Hid (Below w.heap.size w V) := by subst hV; exact low_alloc _ _
  clear hV c0
  generalize w.heap.size = B at HA
  go_loopw [26] (fun i wr => ∃ j : Nat, j ≤ ns.length ∧ i = .int .i64 j ∧ PTo ns j ∧ Below V.heap.size V wr) (fun i _ => ns.length - (intOf i).toNat)
  case atStart => exact ⟨0, Nat.zero_le _, rfl, PTo.start ns, Below.refl _ _⟩
  case round =>
    obtain ⟨j, hj, rfl, hto, hb⟩ := hrel
    have HI : Hid (PTo ns j) := hto
    have HB : Hid (Below V.heap.size V wr) := hb
    have t0 := (HA.out.below hb).cell 0 _ rfl
    have hsz : B < wr.heap.size := (HA.out.below hb).lt
    have hne : B ≠ wr.heap.size := by omega
    clear hto hb
    by_cases hlt : j < ns.length
    · have hj0 : (0 : Int) ≤ (j : Int) := by omega
      have hj1 : (j : Int) < (ns.length : Int) := by omega
      obtain ⟨p', hpp, c0, c1, c2, c3⟩ := ((H.out.below HV.out).below HB.out).node j hlt
      cases hpp
      have HX : Hid (ns[j]? = some ns[j]) := List.getElem?_eq_getElem hlt
      generalize ns[j] = n at c0 c1 c2 c3 HX
      go_wp2_with fail
      have HX3 : Hid (Row (wr.alloc (.cells #[.int .i64 n.l, .int .i64 n.a, .int .i64 n.b, .int .i64 n.c] 109)) wr.heap.size [.int .i64 n.l, .int .i64 n.a, .int .i64 n.b, .int .i64 n.c]) := row_fresh wr [.int .i64 n.l, .int .i64 n.a, .int .i64 n.b, .int .i64 n.c] 109
      have HB3 : Hid (Below V.heap.size V (wr.alloc (.cells #[.int .i64 n.l, .int .i64 n.a, .int .i64 n.b, .int .i64 n.c] 109))) := behind_alloc HB.out _
      generalize wr.alloc (.cells #[.int .i64 n.l, .int .i64 n.a, .int .i64 n.b, .int .i64 n.c] 109) = U at HX3 HB3
      generalize wr.heap.size = X at *
      have HA3 : Hid (Row U B [.slice (some p) ns.length d]) := HA.out.below HB3.out
      have HS3 : Hid (Sq U (some p) (flat ns)) := (H.out.below HV.out).below HB3.out
      have H0 : Hid (Below U.heap.size U U) := Below.refl _ _
      clear t0 c0 c1 c2 c3 HB
      have hsome := beh_some U
      have u0 := Beh.row HA3.out 0 _ rfl
      have x0 := Beh.row HX3.out 0 _ rfl
      have x1 := Beh.row HX3.out 1 _ rfl
      have x2 := Beh.row HX3.out 2 _ rfl
      have x3 := Beh.row HX3.out 3 _ rfl
      have HBad : Hid (∀ P : Prop, (¬ POk ns → P) → ¬ (timeB n.l = true ∧ vokB n.a n.b n.c = true) → P) := fun P f g => f (fun t => g (t.each j n HX.out))
      have HTm : Hid (∀ W : World, Calls Tryz.prog 23 #[.int .i64 n.l] W fun e w' => e = .returned (.bool (timeB n.l)) ∧ w' = W) := fun W => l01Time_c n.l W
      have HVk : Hid (∀ W : World, Calls Tryz.prog 75 #[.agg #[.int .i64 n.a, .int .i64 n.b, .int .i64 n.c]] W fun e w' => e = .returned (.bool (vokB n.a n.b n.c)) ∧ Below W.heap.size W w') := fun W => specVecOk_c n.a n.b n.c W
      cases ht : timeB n.l
      · have HN : Hid (¬ POk ns) := HBad.out _ id (fun g => by rw [ht] at g; cases g.1)
        rw [ht] at HTm
        clear ht HBad HVk
        refine wp_region_beh (by kernel_rfl) (by kernel_rfl) ?_
        repeat (go_big_quiet_step (first | (go_at_call 23; exact calls_beh_same (HTm.out _))))
        refine wpQuiet_nil ?_
        rintro ⟨w2, hb2⟩
        have HB4 : Hid (Below V.heap.size V w2) := below_then HB3.out hb2
        go_wp2_with fail
        go_ret
        exact says_no rfl HN.out (below_then HV.out HB4.out)
      · cases hv : vokB n.a n.b n.c
        · have HN : Hid (¬ POk ns) := HBad.out _ id (fun g => by rw [hv] at g; cases g.2)
          rw [ht] at HTm
          rw [hv] at HVk
          clear ht hv HBad
          refine wp_region_beh (by kernel_rfl) (by kernel_rfl) ?_
          repeat (go_big_quiet_step (first | (go_at_call 23; exact calls_beh_same (HTm.out _)) | (go_at_call 75; exact calls_beh (HVk.out _))))
          refine wpQuiet_nil ?_
          rintro ⟨w2, hb2⟩
          have HB4 : Hid (Below V.heap.size V w2) := below_then HB3.out hb2
          go_wp2_with fail
          go_ret
          exact says_no rfl HN.out (below_then HV.out HB4.out)
        · have HTV : Hid (timeB n.l = true ∧ vokB n.a n.b n.c = true) := ⟨ht, hv⟩
          rw [ht] at HTm
          rw [hv] at HVk
          clear ht hv HBad
          by_cases hj2 : j = 0
          · subst hj2
            have HI1 : Hid (PTo ns 1) := PTo.first HX.out HTV.out.1 HTV.out.2
            refine wp_region_beh (by kernel_rfl) (by kernel_rfl) ?_
            repeat (go_big_quiet_step (first | (go_at_call 23; exact calls_beh_same (HTm.out _)) | (go_at_call 75; exact calls_beh (HVk.out _))))
            refine wpQuiet_nil ?_
            rintro ⟨w2, hb2⟩
            have HB4 : Hid (Below V.heap.size V w2) := below_then HB3.out hb2
            go_wp2_with fail
            exact ⟨⟨1, by omega, by go_num, HI1.out, HB4.out⟩, by simp [intOf]; omega⟩
          · obtain ⟨i, rfl⟩ : ∃ i, j = i + 1 := ⟨j - 1, by omega⟩
            have hi0 : (0 : Int) ≤ (i : Int) := by omega
            have hi1 : (i : Int) < (ns.length : Int) := by omega
            have hi2 : decide ((0 : Int) < (i : Int) + 1) = true := decide_eq_true (by omega)
            have HM : Hid (ns[i]? = some ns[i]) := List.getElem?_eq_getElem (by omega)
            generalize ns[i] = m at HM
            obtain ⟨m0, m1, m2, m3⟩ := Beh.node HS3.out HM.out
            by_cases hle : n.l ≤ m.l
            · have HN : Hid (¬ POk ns) := fun t => by have := (t.step i m n HM.out HX.out).1; omega
              have hd : decide (n.l ≤ m.l) = true := by simpa using hle
              refine wp_region_beh (by kernel_rfl) (by kernel_rfl) ?_
              repeat (go_big_quiet_step (first | (go_at_call 23; exact calls_beh_same (HTm.out _)) | (go_at_call 75; exact calls_beh (HVk.out _))))
              refine wpQuiet_nil ?_
              rintro ⟨w2, hb2⟩
              have HB4 : Hid (Below V.heap.size V w2) := below_then HB3.out hb2
              go_wp2_with fail
              go_ret
              exact says_no rfl HN.out (below_then HV.out HB4.out)
            · have hd : decide (n.l ≤ m.l) = false := by simpa using hle
              cases hsv : sameV m n
              · have HI1 : Hid (PTo ns (i + 1 + 1)) := HI.out.next HM.out HX.out HTV.out.1 HTV.out.2 (by omega) hsv
                have heq : ∀ W : World, (Op.equalIn 10000 50 (.agg #[.int .i64 m.a, .int .i64 m.b, .int .i64 m.c]) (.agg #[.int .i64 n.a, .int .i64 n.b, .int .i64 n.c])).run Tryz.prog W = .ok false W := fun W => by rw [eq_vec, show (m.a == n.a && (m.b == n.b && m.c == n.c)) = false from hsv]
                clear hsv hle
                refine wp_region_beh (by kernel_rfl) (by kernel_rfl) ?_
                repeat (go_big_quiet_step (first | (go_at_call 23; exact calls_beh_same (HTm.out _)) | (go_at_call 75; exact calls_beh (HVk.out _))))
                refine wpQuiet_nil ?_
                rintro ⟨w2, hb2⟩
                have HB4 : Hid (Below V.heap.size V w2) := below_then HB3.out hb2
                go_wp2_with fail
                exact ⟨⟨i + 1 + 1, by omega, by go_num, HI1.out, HB4.out⟩, by simp [intOf]; omega⟩
              · have HN : Hid (¬ POk ns) := fun t => by have := (t.step i m n HM.out HX.out).2; rw [hsv] at this; cases this
                have heq : ∀ W : World, (Op.equalIn 10000 50 (.agg #[.int .i64 m.a, .int .i64 m.b, .int .i64 m.c]) (.agg #[.int .i64 n.a, .int .i64 n.b, .int .i64 n.c])).run Tryz.prog W = .ok true W := fun W => by rw [eq_vec, show (m.a == n.a && (m.b == n.b && m.c == n.c)) = true from hsv]
                clear hsv hle
                refine wp_region_beh (by kernel_rfl) (by kernel_rfl) ?_
                repeat (go_big_quiet_step (first | (go_at_call 23; exact calls_beh_same (HTm.out _)) | (go_at_call 75; exact calls_beh (HVk.out _))))
                refine wpQuiet_nil ?_
                rintro ⟨w2, hb2⟩
                have HB4 : Hid (Below V.heap.size V w2) := below_then HB3.out hb2
                go_wp2_with fail
                go_ret
                exact says_no rfl HN.out (below_then HV.out HB4.out)
    · have HN : Hid (POk ns) := HI.out.all (by omega) h0 h1 HT.out
      go_wp2_with fail
      go_ret
      exact says_yes rfl HN.out (below_then HV.out HB.out)

set_option maxHeartbeats 4000000 in
set_option maxRecDepth 100000 in
theorem implProfOk_main (b : Option Addr) (d : Nat) (ns : List Nd) (w : World) (h : Sq w b (flat ns)) (h0 : 1 ≤ ns.length) (h1 : ns.length ≤ 200) (h3 : ∀ n, ns[0]? = some n → n.l = 0) :
    Calls Tryz.prog 84 #[.agg #[.slice b ns.length d]] w (Says w (POk ns)) := by
  have hi : ¬ (ns.length : Int) < 1 := by omega
  have hi' : ¬ 200 < (ns.length : Int) := by omega
  have hi3 : (0 : Int) < (ns.length : Int) := by omega
  have HT : Hid (∀ n, ns[0]? = some n → n.l = 0) := h3
  have H : Hid (Sq w b (flat ns)) := h
  obtain ⟨p, rfl, c0, _⟩ := (h.below (low_alloc w (.cells #[.slice b ns.length d] 44))).node 0 h0
  rw [h3 ns[0] (List.getElem?_eq_getElem h0), show p.add (0 * 4) = p from rfl] at c0
  clear h3 h
  go_enter Tryz.func84, Tryz.ntmps84
  go_wp2_with fail
  generalize hV : w.alloc (.cells #[.slice (some p) ns.length d] 44) = V at c0
  have HA : Hid (Row V w.heap.size [.slice (some p) ns.length d]) := by subst hV; exact row_fresh w [.slice (some p) ns.length d] 44
  have HV : Hid (Below w.heap.size w V) := by subst hV; exact low_alloc _ _
  clear hV c0
  generalize w.heap.size = B at HA
  go_loopw [26] (fun i wr => ∃ j : Nat, j ≤ ns.length ∧ i = .int .i64 j ∧ PTo ns j ∧ Below V.heap.size V wr) (fun i _ => ns.length - (intOf i).toNat)
  case atStart => exact ⟨0, Nat.zero_le _, rfl, PTo.start ns, Below.refl _ _⟩
  case round =>
    obtain ⟨j, hj, rfl, hto, hb⟩ := hrel
    have HI : Hid (PTo ns j) := hto
    have HB : Hid (Below V.heap.size V wr) := hb
    have t0 := (HA.out.below hb).cell 0 _ rfl
    have hsz : B < wr.heap.size := (HA.out.below hb).lt
    have hne : B ≠ wr.heap.size := by omega
    clear hto hb
    by_cases hlt : j < ns.length
    · have hj0 : (0 : Int) ≤ (j : Int) := by omega
      have hj1 : (j : Int) < (ns.length : Int) := by omega
      obtain ⟨p', hpp, c0, c1, c2, c3⟩ := ((H.out.below HV.out).below HB.out).node j hlt
      cases hpp
      have HX : Hid (ns[j]? = some ns[j]) := List.getElem?_eq_getElem hlt
      generalize ns[j] = n at c0 c1 c2 c3 HX
      go_wp2_with fail
      have HX3 : Hid (Row (wr.alloc (.cells #[.int .i64 n.l, .int .i64 n.a, .int .i64 n.b, .int .i64 n.c] 109)) wr.heap.size [.int .i64 n.l, .int .i64 n.a, .int .i64 n.b, .int .i64 n.c]) := row_fresh wr [.int .i64 n.l, .int .i64 n.a, .int .i64 n.b, .int .i64 n.c] 109
      have HB3 : Hid (Below V.heap.size V (wr.alloc (.cells #[.int .i64 n.l, .int .i64 n.a, .int .i64 n.b, .int .i64 n.c] 109))) := behind_alloc HB.out _
      generalize wr.alloc (.cells #[.int .i64 n.l, .int .i64 n.a, .int .i64 n.b, .int .i64 n.c] 109) = U at HX3 HB3
      generalize wr.heap.size = X at *
      have HA3 : Hid (Row U B [.slice (some p) ns.length d]) := HA.out.below HB3.out
      have HS3 : Hid (Sq U (some p) (flat ns)) := (H.out.below HV.out).below HB3.out
      have H0 : Hid (Below U.heap.size U U) := Below.refl _ _
      clear t0 c0 c1 c2 c3 HB
      have x0 := HX3.out.cell 0 _ rfl
      have HBad : Hid (∀ P : Prop, (¬ POk ns → P) → ¬ (timeB n.l = true ∧ vokB n.a n.b n.c = true) → P) := fun P f g => f (fun t => g (t.each j n HX.out))
      go_wp2_with fail
      refine (timeOk_c n.l _).mono ?_
      rintro e w4 ⟨rfl, rfl⟩
      cases ht : timeB n.l
      · have HN : Hid (¬ POk ns) := HBad.out _ id (fun g => by rw [ht] at g; cases g.1)
        clear ht HBad
        go_wp2_with fail
        go_ret
        exact says_no rfl HN.out (below_then HV.out HB3.out)
      · have x1 := HX3.out.cell 1 _ rfl
        have x2 := HX3.out.cell 2 _ rfl
        have x3 := HX3.out.cell 3 _ rfl
        have Ht : Hid (timeB n.l = true) := ht
        clear ht
        go_wp2_with fail
        refine (implVecOk_c n.a n.b n.c _).mono ?_
        rintro e w5 ⟨rfl, hb⟩
        have HB5 : Hid (Below V.heap.size V w5) := below_then HB3.out hb
        have HA5 : Hid (Row w5 B [.slice (some p) ns.length d]) := HA3.out.below hb
        have HX5 : Hid (Row w5 X [.int .i64 n.l, .int .i64 n.a, .int .i64 n.b, .int .i64 n.c]) := HX3.out.below hb
        have HS5 : Hid (Sq w5 (some p) (flat ns)) := HS3.out.below hb
        clear hb x0 x1 x2 x3 HX3 HA3 HS3 HB3 H0
        cases hv : vokB n.a n.b n.c
        · have HN : Hid (¬ POk ns) := HBad.out _ id (fun g => by rw [hv] at g; cases g.2)
          clear hv HBad
          go_wp2_with fail
          go_ret
          exact says_no rfl HN.out (below_then HV.out HB5.out)
        · have HTV : Hid (timeB n.l = true ∧ vokB n.a n.b n.c = true) := ⟨Ht.out, hv⟩
          clear hv HBad
          have hsome := beh_some w5
          have u0 := Beh.row HA5.out 0 _ rfl
          have x0 := Beh.row HX5.out 0 _ rfl
          have x1 := Beh.row HX5.out 1 _ rfl
          have x2 := Beh.row HX5.out 2 _ rfl
          have x3 := Beh.row HX5.out 3 _ rfl
          by_cases hj2 : j = 0
          · subst hj2
            have HI1 : Hid (PTo ns 1) := PTo.first HX.out HTV.out.1 HTV.out.2
            go_wp2_with fail
            refine wp_region_beh (by kernel_rfl) (by kernel_rfl) ?_
            repeat (go_big_quiet_step (fail))
            refine wpQuiet_nil ?_
            rintro ⟨w2, hb2⟩
            have HB4 : Hid (Below V.heap.size V w2) := below_then HB5.out hb2
            go_wp2_with fail
            exact ⟨⟨1, by omega, by go_num, HI1.out, HB4.out⟩, by simp [intOf]; omega⟩
          · obtain ⟨i, rfl⟩ : ∃ i, j = i + 1 := ⟨j - 1, by omega⟩
            have hi0 : (0 : Int) ≤ (i : Int) := by omega
            have hi1 : (i : Int) < (ns.length : Int) := by omega
            have hi2 : decide ((0 : Int) < (i : Int) + 1) = true := decide_eq_true (by omega)
            have HM : Hid (ns[i]? = some ns[i]) := List.getElem?_eq_getElem (by omega)
            generalize ns[i] = m at HM
            obtain ⟨m0, m1, m2, m3⟩ := Beh.node HS5.out HM.out
            by_cases hle : n.l ≤ m.l
            · have HN : Hid (¬ POk ns) := fun t => by have := (t.step i m n HM.out HX.out).1; omega
              have hd : decide (n.l ≤ m.l) = true := by simpa using hle
              go_wp2_with fail
              refine wp_region_beh (by kernel_rfl) (by kernel_rfl) ?_
              repeat (go_big_quiet_step (fail))
              refine wpQuiet_nil ?_
              rintro ⟨w2, hb2⟩
              have HB4 : Hid (Below V.heap.size V w2) := below_then HB5.out hb2
              go_wp2_with fail
              go_ret
              exact says_no rfl HN.out (below_then HV.out HB4.out)
            · have hd : decide (n.l ≤ m.l) = false := by simpa using hle
              cases hsv : sameV m n
              · have HI1 : Hid (PTo ns (i + 1 + 1)) := HI.out.next HM.out HX.out HTV.out.1 HTV.out.2 (by omega) hsv
                have heq : ∀ W : World, (Op.equalIn 10000 50 (.agg #[.int .i64 n.a, .int .i64 n.b, .int .i64 n.c]) (.agg #[.int .i64 m.a, .int .i64 m.b, .int .i64 m.c])).run Tryz.prog W = .ok false W := fun W => by rw [eq_vec, show (n.a == m.a && (n.b == m.b && n.c == m.c)) = false by rw [same_comm]; exact hsv]
                clear hsv hle
                go_wp2_with fail
                refine wp_region_beh (by kernel_rfl) (by kernel_rfl) ?_
                repeat (go_big_quiet_step (fail))
                refine wpQuiet_nil ?_
                rintro ⟨w2, hb2⟩
                have HB4 : Hid (Below V.heap.size V w2) := below_then HB5.out hb2
                go_wp2_with fail
                exact ⟨⟨i + 1 + 1, by omega, by go_num, HI1.out, HB4.out⟩, by simp [intOf]; omega⟩
              · have HN : Hid (¬ POk ns) := fun t => by have := (t.step i m n HM.out HX.out).2; rw [hsv] at this; cases this
                have heq : ∀ W : World, (Op.equalIn 10000 50 (.agg #[.int .i64 n.a, .int .i64 n.b, .int .i64 n.c]) (.agg #[.int .i64 m.a, .int .i64 m.b, .int .i64 m.c])).run Tryz.prog W = .ok true W := fun W => by rw [eq_vec, show (n.a == m.a && (n.b == m.b && n.c == m.c)) = true by rw [same_comm]; exact hsv]
                clear hsv hle
                go_wp2_with fail
                refine wp_region_beh (by kernel_rfl) (by kernel_rfl) ?_
                repeat (go_big_quiet_step (fail))
                refine wpQuiet_nil ?_
                rintro ⟨w2, hb2⟩
                have HB4 : Hid (Below V.heap.size V w2) := below_then HB5.out hb2
                go_wp2_with fail
                go_ret
                exact says_no rfl HN.out (below_then HV.out HB4.out)
    · have HN : Hid (POk ns) := HI.out.all (by omega) h0 h1 HT.out
      go_wp2_with fail
      go_ret
      exact says_yes rfl HN.out (below_then HV.out HB.out)

theorem specProfOk_c (b : Option Addr) (d : Nat) (ns : List Nd) (w : World) (h : Sq w b (flat ns)) :
    Calls Tryz.prog 74 #[.agg #[.slice b ns.length d]] w (Says w (POk ns)) := by
  by_cases h0 : ns.length < 1
  · exact specProfOk_none b d ns w h0
  · by_cases h1 : 200 < ns.length
    · exact specProfOk_many b d ns w h1
    · have e := List.getElem?_eq_getElem (show 0 < ns.length by omega)
      by_cases h2 : ns[0].l = 0
      · exact specProfOk_main b d ns w h (by omega) (by omega) (fun n hn => by rw [e] at hn; cases hn; exact h2)
      · exact specProfOk_top b d ns w h (by omega) (by omega) _ e h2
theorem implProfOk_c (b : Option Addr) (d : Nat) (ns : List Nd) (w : World) (h : Sq w b (flat ns)) :
    Calls Tryz.prog 84 #[.agg #[.slice b ns.length d]] w (Says w (POk ns)) := by
  by_cases h0 : ns.length < 1
  · exact implProfOk_none b d ns w h0
  · by_cases h1 : 200 < ns.length
    · exact implProfOk_many b d ns w h1
    · have e := List.getElem?_eq_getElem (show 0 < ns.length by omega)
      by_cases h2 : ns[0].l = 0
      · exact implProfOk_main b d ns w h (by omega) (by omega) (fun n hn => by rw [e] at hn; cases hn; exact h2)
      · exact implProfOk_top b d ns w h (by omega) (by omega) _ e h2
end Go.Proofs.YtmpjebkjopfejaaGreat
