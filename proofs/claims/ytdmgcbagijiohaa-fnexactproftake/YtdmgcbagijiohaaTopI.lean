/- A switch of a right topology; its level, by the specification. -/
import Derived.Test.YtdmgcbagijiohaaTopH
namespace Go.Proofs.Ytdmgcbagijiohaa
open Go.ChangeShapes Go.WideShapes Go.ChangeAt Go.RowKit

/-- A right topology has the switch. -/
def SwOk (ps : List Int) (ns : List Nd) (s : Int) : Prop := TopOk ps ns ∧ 0 ≤ s ∧ s < ps.length


/-- From a switch up to the top. -/
def upF (ps : List Int) : Nat → Nat → List Int
  | 0, s => [(s : Int)]
  | f + 1, s => if 0 < s then (s : Int) :: upF ps f ((ps[s]?).getD 0).toNat else [(s : Int)]

theorem up_enough {ps : List Int} (ht : treeB ps) : ∀ (f f' s : Nat), s < ps.length → s ≤ f → s ≤ f' → upF ps f s = upF ps f' s
  | 0, 0, _, _, _, _ => rfl
  | 0, f' + 1, s, _, h1, _ => by
    obtain rfl : s = 0 := by omega
    simp [upF]
  | f + 1, 0, s, _, _, h2 => by
    obtain rfl : s = 0 := by omega
    simp [upF]
  | f + 1, f' + 1, s, h0, h1, h2 => by
    unfold upF
    split
    · rename_i hs
      have hx := ht s ps[s] hs (List.getElem?_eq_getElem h0)
      rw [List.getElem?_eq_getElem h0, Option.getD_some]
      rw [up_enough ht f f' _ (by omega) (by omega) (by omega)]
    · rfl

theorem up_len (ps : List Int) : ∀ (f s : Nat), (upF ps f s).length ≤ f + 1
  | 0, _ => by simp [upF]
  | f + 1, s => by
    unfold upF
    split
    · have := up_len ps f ((ps[s]?).getD 0).toNat
      simp
      omega
    · simp

theorem owns_lit (V : World) (xs : List Value) (e : TypeId) (h : xs.length ≤ 4294967296) : (V.alloc (.cells xs.toArray e)).ownsRow V.heap.size e 1 (.slice (some ⟨V.heap.size, 0, none⟩) xs.length xs.length) xs.length xs := by
  refine ⟨by simp, Or.inr ⟨V.heap.size, xs.length, xs.toArray, rfl, Nat.le_refl _, by show (V.heap.push _)[V.heap.size]? = _; simp, Nat.le_refl _, by unfold maxLen; omega, by simp, by simp⟩⟩

theorem owns_mono {w : World} {B B' : Nat} {e : TypeId} {size : Nat} {v : Value} {n : Nat} {xs : List Value} (h : w.ownsRow B e size v n xs) (hb : B' ≤ B) : w.ownsRow B' e size v n xs := by
  obtain ⟨hl, h⟩ := h
  refine ⟨hl, ?_⟩
  rcases h with h | ⟨g, cap, cur, h1, h2, h3⟩
  · exact .inl h
  · exact .inr ⟨g, cap, cur, h1, by omega, h3⟩

set_option maxHeartbeats 1000000 in
theorem l02Up_o (a b : Option Addr) (c m d : Nat) (ps : List Int) (s : Nat) (hl : ps.length ≤ 24) (ht : treeB ps) (hs : s < ps.length) (w : World) (h : Sq w a (ints ps)) :
    Calls Try.prog 91 #[.agg #[.slice a ps.length c, .slice b m d], .int .i64 (s : Int)] w fun e w' =>
      ∃ v, e = .returned v ∧ w'.ownsRow w.heap.size 3 1 v (upF ps s s).length (ints (upF ps s s)) ∧ Below w.heap.size w w' := by
  have H : Hid (Sq w a (ints ps)) := h
  have HT : Hid (treeB ps) := ht
  clear h ht
  obtain ⟨i0, hi, hz0, hz1, hz2⟩ := info_parts infoInt
  go_enter Try.func91, Try.ntmps91
  go_wp2_with fail
  generalize hV : w.alloc (.cells #[.slice a ps.length c, .slice b m d] 56) = V
  have HA : Hid (Row V w.heap.size [.slice a ps.length c, .slice b m d]) := by subst hV; exact row_fresh w [.slice a ps.length c, .slice b m d] 56
  have HV : Hid (Below w.heap.size w V) := by subst hV; exact low_alloc _ _
  have hVs : w.heap.size + 1 = V.heap.size := by subst hV; simp [go_sem]
  clear hV
  rw [hVs]
  go_loopw [1, 5] (fun i o wr => ∃ (j : Nat) (pre : List Int), j < ps.length ∧ i = .int .i64 j ∧ pre.length + j ≤ s ∧ upF ps s s = pre ++ upF ps j j ∧ wr.ownsRow V.heap.size 3 1 o (pre ++ [(j : Int)]).length (ints (pre ++ [(j : Int)])) ∧ Below V.heap.size V wr) (fun i _ _ => (intOf i).toNat)
  case atStart => exact ⟨s, [], hs, rfl, by simp, rfl, owns_lit V [.int .i64 s] 3 (by simp), low_alloc _ _⟩
  case round =>
    obtain ⟨j, pre, hj, rfl, hpre, hup, hown, hb⟩ := hrel
    have HO : Hid (wr.ownsRow V.heap.size 3 1 u5 (pre ++ [(j : Int)]).length (ints (pre ++ [(j : Int)]))) := hown
    have HB : Hid (Below V.heap.size V wr) := hb
    have HU : Hid (upF ps s s = pre ++ upF ps j j) := hup
    have hwr : V.heap.size ≤ wr.heap.size := hb.size
    have t0 := (HA.out.below hb).cell 0 _ rfl
    have hpl : (pre ++ [(j : Int)]).length = pre.length + 1 := by simp
    clear hown hb hup
    by_cases hlt : 0 < j
    · have hi0 : (0 : Int) < (j : Int) := by omega
      have hi00 : (0 : Int) ≤ (j : Int) := by omega
      have hi1 : (j : Int) < (ps.length : Int) := by omega
      obtain ⟨p, rfl, _, hc⟩ := ((H.out.below HV.out).below HB.out).cell j _ (ints_at ps j hj)
      have htr := HT.out j ps[j] hlt (List.getElem?_eq_getElem hj)
      obtain ⟨j2, hj2⟩ : ∃ j2 : Nat, ps[j] = j2 := ⟨ps[j].toNat, by omega⟩
      have HU1 : Hid (upF ps s s = (pre ++ [(j : Int)]) ++ upF ps j2 j2) := by
        show _ = _
        obtain ⟨jj, rfl⟩ : ∃ jj, j = jj + 1 := ⟨j - 1, by omega⟩
        rw [HU.out, upF, if_pos (by omega), List.getElem?_eq_getElem hj, Option.getD_some, hj2, Int.toNat_natCast, up_enough HT.out jj j2 j2 (by omega) (by omega) (Nat.le_refl _)]
        simp
      rw [hj2] at hc htr
      clear hj2
      go_wp2_with (at_builtin; refine wpList_append_own _ rfl _ _ 32 rfl V.heap.size 3 i0 (.int .i64 0) 1 8 Try.underlying32 hi hz0 hz1 hz2 rfl (by decide) _ _ _ rfl (HO.out.alloc _) ⟨wr.heap.size, 0, none⟩ 1 1 [.int .i64 j2] rfl rfl ?c1 ?c2 ?c3 ?c4 ?c5 ?_)
      case c1 =>
        intro k u hk
        match k, hk with
        | 0, hk => simp at hk; subst hk; simp [Addr.add]
      case c2 => intro u hu; simp at hu; subst hu; rfl
      case c3 => unfold maxLen; omega
      case c4 => omega
      case c5 => simp; omega
      · intro v1 w1 hown1 hgrow1 _
        have HB1 : Hid (Below V.heap.size V w1) := (HB.out.alloc hwr _).grown hgrow1 (by simp; omega) (fun q hq => (HO.out.lt q hq).1)
        have HO1 : Hid (w1.ownsRow V.heap.size 3 1 v1 ((pre ++ [(j : Int)]) ++ [(j2 : Int)]).length (ints ((pre ++ [(j : Int)]) ++ [(j2 : Int)]))) := by
          show World.ownsRow _ _ _ _ _ _ _
          rw [List.length_append, hpl, ints, List.map_append]
          exact hown1
        clear hown1 hgrow1
        go_wp2_with fail
        go_roundw
        case rel => exact ⟨j2, pre ++ [(j : Int)], by omega, rfl, by omega, HU1.out, HO1.out, HB1.out⟩
        case measure => simp [intOf]; omega
    · obtain rfl : j = 0 := by omega
      have HK : Hid (upF ps s s = pre ++ [((0 : Nat) : Int)]) := by show _ = _; rw [HU.out]; rfl
      go_wp2_with fail
      go_ret
      refine ⟨u5, rfl, ?_, below_then HV.out HB.out⟩
      rw [HK.out]
      exact owns_mono HO.out (by omega)

theorem l02Up_c (a b : Option Addr) (c m d : Nat) (ps : List Int) (s : Nat) (hl : ps.length ≤ 24) (ht : treeB ps) (hs : s < ps.length) (w : World) (h : Sq w a (ints ps)) :
    Calls Try.prog 91 #[.agg #[.slice a ps.length c, .slice b m d], .int .i64 (s : Int)] w fun e w' =>
      ∃ a' cap, e = .returned (.slice a' (upF ps s s).length cap) ∧ Sq w' a' (ints (upF ps s s)) ∧ Below w.heap.size w w' :=
  (l02Up_o a b c m d ps s hl ht hs w h).mono fun e w' ⟨v, he, ho, hb⟩ => by
    obtain ⟨a', cap, hv, hsq⟩ := sq_of_owns ho
    exact ⟨a', cap, by rw [he, hv], hsq, hb⟩
end Go.Proofs.Ytdmgcbagijiohaa
