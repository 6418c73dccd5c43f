/- Nodes of a right topology, and how many leaves they have: the program and the specification. -/
import Derived.Test.YtmpjebkjopfejaaGreatMgRe
namespace Go.Proofs.YtmpjebkjopfejaaGreat
open Go.ChangeShapes Go.WideShapes Go.ChangeAt Go.RowKit

/-- The number of a node. -/
def isNd (ns : List Nd) (x : Int) : Prop := 0 ≤ x ∧ x < ns.length
/-- A right topology has all these nodes. -/
def NdOk (ps : List Int) (ns : List Nd) (xs : List Int) : Prop := TopOk ps ns ∧ ∀ x ∈ xs, isNd ns x

set_option maxHeartbeats 1000000 in
theorem l02Nodes_c (a b f : Option Addr) (c d m : Nat) (ps : List Int) (ns : List Nd) (xs : List Int) (hp : ps.length ≤ 1048576) (hn : ns.length ≤ 1048576) (hx : xs.length ≤ 1048576) (w : World) (h : Sq w a (ints ps)) (h' : Sq w b (flat ns)) (h2 : Sq w f (ints xs)) :
    Calls Tryz.prog 52 #[.agg #[.slice a ps.length c, .slice b ns.length d], .slice f xs.length m] w (Says w (NdOk ps ns xs)) := by
  have H : Hid (Sq w a (ints ps)) := h
  have H' : Hid (Sq w b (flat ns)) := h'
  have H2 : Hid (Sq w f (ints xs)) := h2
  clear h h' h2
  go_enter Tryz.func52, Tryz.ntmps52
  go_wp2_with fail
  generalize hV : w.alloc (.cells #[.slice a ps.length c, .slice b ns.length d] 40) = V
  have HA : Hid (Row V w.heap.size [.slice a ps.length c, .slice b ns.length d]) := by subst hV; exact row_fresh w [.slice a ps.length c, .slice b ns.length d] 40
  have HV : Hid (Below w.heap.size w V) := by subst hV; exact low_alloc _ _
  clear hV
  have t0 := HA.out.cell 0 _ rfl
  have t1 := HA.out.cell 1 _ rfl
  go_loopw [9] (fun i wr => ∃ k : Nat, k ≤ xs.length ∧ i = .int .i64 k ∧ (∀ x ∈ xs.take k, isNd ns x) ∧ wr = V) (fun i _ => xs.length - (intOf i).toNat)
  case atStart => exact ⟨0, Nat.zero_le _, rfl, fun x h => by simp at h, rfl⟩
  case round =>
    obtain ⟨k, hk, rfl, hi5, rfl⟩ := hrel
    have HI : Hid (∀ x ∈ xs.take k, isNd ns x) := hi5
    clear hi5
    by_cases hlt : k < xs.length
    · have hj0 : (0 : Int) ≤ (k : Int) := by omega
      have hj1 : (k : Int) < (xs.length : Int) := by omega
      obtain ⟨p, rfl, _, hc⟩ := (H2.out.below HV.out).cell k _ (ints_at xs k hlt)
      have HX : Hid (xs[k]? = some xs[k]) := List.getElem?_eq_getElem hlt
      generalize xs[k] = x at hc HX
      by_cases hx0 : x < 0
      · have HN : Hid (¬ NdOk ps ns xs) := fun t => by have := (t.2 x (List.mem_of_getElem? HX.out)).1; omega
        go_wp2_with fail
        go_ret
        exact says_no rfl HN.out HV.out
      · by_cases hx1 : (ns.length : Int) ≤ x
        · have HN : Hid (¬ NdOk ps ns xs) := fun t => by have := (t.2 x (List.mem_of_getElem? HX.out)).2; omega
          go_wp2_with fail
          go_ret
          exact says_no rfl HN.out HV.out
        · have HI1 : Hid (∀ x ∈ xs.take (k + 1), isNd ns x) := fun y hy => by
            rw [List.take_add_one, HX.out, Option.toList_some] at hy
            rcases List.mem_append.1 hy with hy | hy
            · exact HI.out y hy
            · have e := List.mem_singleton.1 hy
              subst e
              exact ⟨by omega, by omega⟩
          go_wp2_with fail
          go_roundw
          case rel => exact ⟨k + 1, by omega, by go_num, HI1.out, by simp⟩
          case measure => simp [intOf]; omega
    · have HAll : Hid (∀ x ∈ xs, isNd ns x) := fun n hn => HI.out n (by rw [List.take_of_length_le (by omega)]; exact hn)
      go_wp2_with fail
      refine (specTopoOk_c a b c d ps ns hp hn _ (H.out.below HV.out) (H'.out.below HV.out)).mono ?_
      rintro e w3 ⟨k', rfl, hk, hb⟩
      have HB3 : Hid (Below w.heap.size w w3) := below_then HV.out hb
      have HK : Hid (k' = true ↔ NdOk ps ns xs) := hk.trans ⟨fun t => ⟨t, HAll.out⟩, fun t => t.1⟩
      clear hb hk
      go_wp2_with fail
      go_ret
      exact ⟨k', rfl, HK.out, HB3.out⟩

theorem nodesThere1_c (x : Int) (B n d : Nat) (b : Option Addr) (w : World) (h : w.cell? ⟨B, 1, none⟩ = some (.slice b n d)) :
    Calls Tryz.prog 110 #[.int .i64 x, .pointer (some ⟨B, 0, none⟩)] w fun e w' => e = .returned (.bool (decide (x < 0) || decide ((n : Int) ≤ x))) ∧ w' = w := by
  by_cases h0 : x < 0
  · go_enter Tryz.func110, Tryz.ntmps110
    go_wp2_with fail
    go_ret
    exact ⟨by simp [h0], rfl⟩
  · go_enter Tryz.func110, Tryz.ntmps110
    go_wp2_with fail
    go_ret
    exact ⟨by simp; omega, rfl⟩

set_option maxHeartbeats 1000000 in
theorem indexFunc_c (f b : Option Addr) (m n d B : Nat) (xs : List Int) (hx : xs.length ≤ 1048576) (w : World) (h2 : Sq w f (ints xs)) (h : w.cell? ⟨B, 1, none⟩ = some (.slice b n d)) :
    Calls Tryz.prog 125 #[.slice f xs.length m, .func (.func 110) #[] #[.pointer (some ⟨B, 0, none⟩)]] w fun e w' => ∃ r : Int, e = .returned (.int .i64 r) ∧ (0 ≤ r ↔ ¬ ∀ x ∈ xs, 0 ≤ x ∧ x < n) ∧ w' = w := by
  have H2 : Hid (Sq w f (ints xs)) := h2
  have HC : Hid (w.cell? ⟨B, 1, none⟩ = some (.slice b n d)) := h
  clear h2 h
  go_enter Tryz.func125, Tryz.ntmps125
  go_wp2_with fail
  go_loopw [8] (fun i wr => ∃ k : Nat, k ≤ xs.length ∧ i = .int .i64 k ∧ (∀ x ∈ xs.take k, 0 ≤ x ∧ x < n) ∧ wr = w) (fun i _ => xs.length - (intOf i).toNat)
  case atStart => exact ⟨0, Nat.zero_le _, rfl, fun x h => by simp at h, rfl⟩
  case round =>
    obtain ⟨k, hk, rfl, hi5, rfl⟩ := hrel
    have HI : Hid (∀ x ∈ xs.take k, 0 ≤ x ∧ x < n) := hi5
    clear hi5
    by_cases hlt : k < xs.length
    · have hj0 : (0 : Int) ≤ (k : Int) := by omega
      have hj1 : (k : Int) < (xs.length : Int) := by omega
      obtain ⟨p, rfl, _, hc⟩ := H2.out.cell k _ (ints_at xs k hlt)
      have HX : Hid (xs[k]? = some xs[k]) := List.getElem?_eq_getElem hlt
      generalize xs[k] = x at hc HX
      go_wp2_with fail
      refine (nodesThere1_c x B n d b _ HC.out).mono ?_
      rintro e w1 ⟨rfl, rfl⟩
      cases hd : (decide (x < 0) || decide ((n : Int) ≤ x))
      · have HI1 : Hid (∀ x ∈ xs.take (k + 1), 0 ≤ x ∧ x < n) := fun y hy => by
          rw [List.take_add_one, HX.out, Option.toList_some] at hy
          rcases List.mem_append.1 hy with hy | hy
          · exact HI.out y hy
          · have e := List.mem_singleton.1 hy
            subst e
            simp at hd
            omega
        clear hd
        go_wp2_with fail
        go_roundw
        case rel => exact ⟨k + 1, by omega, by go_num, HI1.out, by simp⟩
        case measure => simp [intOf]; omega
      · have HN : Hid (¬ ∀ x ∈ xs, 0 ≤ x ∧ x < n) := fun h => by
          have := h x (List.mem_of_getElem? HX.out)
          simp at hd
          omega
        clear hd
        go_wp2_with fail
        go_ret
        exact ⟨k, rfl, ⟨fun _ => HN.out, fun _ => hj0⟩, rfl⟩
    · have HAll : Hid (∀ x ∈ xs, 0 ≤ x ∧ x < n) := fun n hn => HI.out n (by rw [List.take_of_length_le (by omega)]; exact hn)
      go_wp2_with fail
      go_ret
      exact ⟨-1, rfl, ⟨fun h => by omega, fun h => absurd HAll.out h⟩, rfl⟩

theorem containsFunc_c (f b : Option Addr) (m n d B : Nat) (xs : List Int) (hx : xs.length ≤ 1048576) (w : World) (h2 : Sq w f (ints xs)) (h : w.cell? ⟨B, 1, none⟩ = some (.slice b n d)) :
    Calls Tryz.prog 111 #[.slice f xs.length m, .func (.func 110) #[] #[.pointer (some ⟨B, 0, none⟩)]] w fun e w' => ∃ k : Bool, e = .returned (.bool k) ∧ (k = false ↔ ∀ x ∈ xs, 0 ≤ x ∧ x < n) ∧ w' = w := by
  have H2 : Hid (Sq w f (ints xs)) := h2
  have HC : Hid (w.cell? ⟨B, 1, none⟩ = some (.slice b n d)) := h
  clear h2 h
  go_enter Tryz.func111, Tryz.ntmps111
  go_wp2_with fail
  refine (indexFunc_c f b m n d B xs hx _ H2.out HC.out).mono ?_
  rintro e w1 ⟨r, rfl, hr, rfl⟩
  have HR : Hid (decide (0 ≤ r) = false ↔ ∀ x ∈ xs, 0 ≤ x ∧ x < n) := by
    show _ ↔ _
    rw [decide_eq_false_iff_not, hr, Classical.not_not]
  clear hr
  go_wp2_with fail
  go_ret
  exact ⟨decide (0 ≤ r), rfl, HR.out, rfl⟩

set_option maxHeartbeats 1000000 in
theorem nodesThere_c (a b f : Option Addr) (c d m : Nat) (ps : List Int) (ns : List Nd) (xs : List Int) (hn : ns.length ≤ 1048576) (hx : xs.length ≤ 1048576) (w : World) (h : Sq w a (ints ps)) (h' : Sq w b (flat ns)) (h2 : Sq w f (ints xs)) :
    Calls Tryz.prog 86 #[.agg #[.slice a ps.length c, .slice b ns.length d], .slice f xs.length m] w (Says w (NdOk ps ns xs)) := by
  have H : Hid (Sq w a (ints ps)) := h
  have H' : Hid (Sq w b (flat ns)) := h'
  have H2 : Hid (Sq w f (ints xs)) := h2
  clear h h' h2
  go_enter Tryz.func86, Tryz.ntmps86
  go_wp2_with fail
  generalize hV : w.alloc (.cells #[.slice a ps.length c, .slice b ns.length d] 40) = V
  have HA : Hid (Row V w.heap.size [.slice a ps.length c, .slice b ns.length d]) := by subst hV; exact row_fresh w [.slice a ps.length c, .slice b ns.length d] 40
  have HV : Hid (Below w.heap.size w V) := by subst hV; exact low_alloc _ _
  clear hV
  refine (implTopoOk_c a b c d ps ns hn _ (H.out.below HV.out) (H'.out.below HV.out)).mono ?_
  rintro e w1 ⟨k, rfl, hk, hb⟩
  have HB1 : Hid (Below V.heap.size V w1) := hb
  have HK : Hid (k = true ↔ TopOk ps ns) := hk
  clear hk hb
  cases k
  · have HN : Hid (¬ NdOk ps ns xs) := fun t => by have := HK.out.2 t.1; cases this
    go_wp2_with fail
    go_ret
    exact says_no rfl HN.out (below_then HV.out HB1.out)
  · have HY : Hid (TopOk ps ns) := HK.out.1 rfl
    go_wp2_with fail
    refine (containsFunc_c f b m ns.length d w.heap.size xs hx _ ((H2.out.below HV.out).below HB1.out) ((HA.out.below HB1.out).cell 1 _ rfl)).mono ?_
    rintro e w2 ⟨k, rfl, hk, rfl⟩
    have HK2 : Hid (k = false ↔ ∀ x ∈ xs, isNd ns x) := hk
    clear hk
    go_wp2_with fail
    go_ret
    exact ⟨!k, rfl, by rw [Bool.not_eq_true', HK2.out]; exact ⟨fun t => ⟨HY.out, t⟩, fun t => t.2⟩, below_then HV.out HB1.out⟩
end Go.Proofs.YtmpjebkjopfejaaGreat
