/- Accounts: the program's AccountsOk and AccountAt. -/
import Derived.Test.YtpjfampfhofeaaaScA
import Derived.Test.YtpjfampfhofeaaaSjL
namespace Go.Proofs.Ytpjfampfhofeaaa
open Go.ChangeShapes Go.WideShapes Go.ChangeAt Go.RowKit

def shB (x : Ac) : Bool := btB 1 x.sh 1000 && btB 0 x.us 1000000000
theorem accB_sh (x : Ac) : accB x = (wordB x.nm && shB x) := by
  unfold accB shB btB useB
  cases wordB x.nm <;> simp [Bool.and_assoc]
theorem nms_at {l : List Ac} {k : Nat} {x : ByteArray} (h : (l.map (·.nm))[k]? = some x) : k < l.length ∧ (ag l k).nm = x := by
  obtain ⟨h1, h2⟩ := List.getElem?_eq_some_iff.1 h
  have h3 : k < l.length := by simpa using h1
  refine ⟨h3, ?_⟩
  rw [ag_eq h3, ← h2]
  simp
/-- Right accounts, as the program looks at them. -/
theorem aok_iff {l : List Ac} (h12 : l.length ≤ 12) : AOk l ↔ (∀ x ∈ l, shB x = true) ∧ WRi (l.map (·.nm)) := by
  constructor
  · intro h
    refine ⟨fun x hx => ?_, fun s hs => ?_, fun k x y hx hy => ?_⟩
    · have := h.acc hx
      rw [accB_sh, Bool.and_eq_true] at this
      exact this.2
    · obtain ⟨x, hx, rfl⟩ := List.mem_map.1 hs
      have := h.acc hx
      rw [accB_sh, Bool.and_eq_true] at this
      exact this.1
    · obtain ⟨h1, e1⟩ := nms_at hx
      obtain ⟨h2, e2⟩ := nms_at hy
      have := (h.2 (k + 1) h2).2 (by omega)
      rw [Nat.add_sub_cancel, e1, e2] at this
      exact this
  · rintro ⟨h1, h2, h3⟩
    refine ⟨h12, fun i hi => ⟨?_, fun h0 => ?_⟩⟩
    · rw [accB_sh, ag_eq hi, h1 _ (List.getElem_mem hi), h2 _ (List.mem_map.2 ⟨_, List.getElem_mem hi, rfl⟩)]
      rfl
    · have e1 : (l.map (·.nm))[i - 1]? = some (ag l (i - 1)).nm := by rw [ag_eq (by omega), List.getElem?_map, List.getElem?_eq_getElem (show i - 1 < l.length by omega)]; rfl
      have e2 : (l.map (·.nm))[i - 1 + 1]? = some (ag l i).nm := by rw [Nat.sub_add_cancel h0, ag_eq hi, List.getElem?_map, List.getElem?_eq_getElem hi]; rfl
      exact h3 _ _ _ e1 e2
theorem nmV_add (xs ys : List ByteArray) : nmV (xs ++ ys) = nmV xs ++ nmV ys := by simp [nmV]
theorem infoNm : (Try.prog.info? 9).map (fun i => (i.zero, i.size, i.bytes)) = some (some (.string ByteArray.empty), 1, 16) := by kernel_rfl
/-- 'make([]string, 0, n)'. -/
theorem make_names (n : Nat) (hn : n ≤ 1048576) : ∃ Z : List Value, Z.length = n ∧ ∀ w : World, (Instr.makeSlice 67 (.int .i64 0) (.int .i64 (n : Int))).run Try.prog w = .ok (.slice (some ⟨w.heap.size, 0, none⟩) 0 n) (w.alloc (.cells Z.toArray 9)) := by
  obtain ⟨i0, hi, hz0, hz1, hz2⟩ := info_parts infoNm
  refine ⟨(madeCells (Value.string ByteArray.empty).cells (n * i0.size)).toList, ?_, fun w => ?_⟩
  · rw [hz1]
    simp [madeCells, Value.cells]
  · have h := run_make (P := Try.prog) (w := w) 67 9 i0 (.string ByteArray.empty) Try.underlying67 hi hz0 .i64 .i64 0 (n : Int) (by omega) (by omega) (by rw [hz2]; omega) (by omega)
    simpa using h
set_option maxHeartbeats 4000000 in
theorem implAccountsOk_c (b : Option Addr) (d : Nat) (l : List Ac) (hl : l.length ≤ 1048576) (_hz : ∀ x ∈ l, x.nm.size ≤ 1048576) (w : World) (h : Sq w b (flatAc l)) :
    Calls Try.prog 21 #[.slice b l.length d] w (Says w (AOk l)) := by
  have H : Hid (Sq w b (flatAc l)) := h
  clear h
  by_cases h12 : 12 < l.length
  · have hi : (12 : Int) < (l.length : Int) := by omega
    have HN : Hid (¬ AOk l) := fun t => by have := t.1; omega
    go_enter Try.func21, Try.ntmps21
    go_wp2_with fail
    go_ret
    exact says_no rfl HN.out (Below.refl _ _)
  · have hi : ¬ (12 : Int) < (l.length : Int) := by omega
    have HK : Hid (AOk l ↔ (∀ x ∈ l, shB x = true) ∧ WRi (l.map (·.nm))) := aok_iff (by omega)
    obtain ⟨i0, hi2, hz0, hz1, hz2⟩ := info_parts infoNm
    obtain ⟨Z, hZ, hmk⟩ := make_names l.length hl
    go_enter Try.func21, Try.ntmps21
    go_wp2_with fail
    have HO0 : Hid ((w.alloc (.cells Z.toArray 9)).ownsRow w.heap.size 9 1 (.slice (some ⟨w.heap.size, 0, none⟩) 0 l.length) 0 []) := World.ownsRow_made w Z.toArray l.length (Nat.le_refl _) (by unfold maxLen; omega) (by simp [hZ])
    have HB0 : Hid (Below w.heap.size w (w.alloc (.cells Z.toArray 9))) := low_alloc _ _
    generalize w.alloc (.cells Z.toArray 9) = w0 at HO0 HB0 ⊢
    clear hmk hZ
    go_loopw [3, 14] (fun o i wr => ∃ (j g c : Nat) (acc : List ByteArray), j ≤ l.length ∧ i = .int .i64 j ∧ o = .slice (some ⟨g, 0, none⟩) j c ∧ acc.length = j ∧ acc ++ (l.drop j).map (·.nm) = l.map (·.nm) ∧ (∀ (k : Nat) (x : Ac), k < j → l[k]? = some x → shB x = true) ∧ wr.ownsRow w.heap.size 9 1 (.slice (some ⟨g, 0, none⟩) j c) j (nmV acc) ∧ Below w.heap.size w wr) (fun _ i _ => l.length - (intOf i).toNat)
    case atStart => exact ⟨0, w.heap.size, l.length, [], Nat.zero_le _, rfl, rfl, rfl, rfl, fun k x h => by omega, HO0.out, HB0.out⟩
    case round =>
      obtain ⟨j, g, c, acc, hj, rfl, rfl, hal, hac, hg, ho, hb⟩ := hrel
      have HAl : Hid (acc.length = j) := hal
      have HAc : Hid (acc ++ (l.drop j).map (·.nm) = l.map (·.nm)) := hac
      have HG : Hid (∀ (k : Nat) (x : Ac), k < j → l[k]? = some x → shB x = true) := hg
      have HO : Hid (wr.ownsRow w.heap.size 9 1 (.slice (some ⟨g, 0, none⟩) j c) j (nmV acc)) := ho
      have HB : Hid (Below w.heap.size w wr) := hb
      clear hal hac hg ho hb HO0 HB0
      by_cases hlt : j < l.length
      · have hj0 : (0 : Int) ≤ (j : Int) := by omega
        have hj1 : (j : Int) < (l.length : Int) := by omega
        have HX : Hid (l[j]? = some l[j]) := List.getElem?_eq_getElem hlt
        have HD : Hid ((acc ++ [l[j].nm]) ++ (l.drop (j + 1)).map (·.nm) = l.map (·.nm)) := by
          show _ = _
          rw [← HAc.out, List.drop_eq_getElem_cons hlt, List.map_cons, List.append_assoc]
          rfl
        have HM : Hid (l[j] ∈ l) := List.getElem_mem hlt
        obtain ⟨p, rfl⟩ := H.out.some_ofAc j hlt
        generalize l[j] = x at HX HD HM
        have c0 := (H.out.below HB.out).account0 HX.out
        have c1 := (H.out.below HB.out).accountK HX.out 1 (by decide) _ rfl
        have c2 := (H.out.below HB.out).accountK HX.out 2 (by decide) _ rfl
        go_wp2_with fail
        have HX3 : Hid (Row (wr.alloc (.cells #[.string x.nm, .int .i64 x.sh, .int .i64 x.us] 30)) wr.heap.size [.string x.nm, .int .i64 x.sh, .int .i64 x.us]) := row_fresh wr [.string x.nm, .int .i64 x.sh, .int .i64 x.us] 30
        have HB3 : Hid (Below w.heap.size w (wr.alloc (.cells #[.string x.nm, .int .i64 x.sh, .int .i64 x.us] 30))) := behind_alloc HB.out _
        have HO3 : Hid ((wr.alloc (.cells #[.string x.nm, .int .i64 x.sh, .int .i64 x.us] 30)).ownsRow w.heap.size 9 1 (.slice (some ⟨g, 0, none⟩) j c) j (nmV acc)) := HO.out.alloc _
        generalize wr.alloc (.cells #[.string x.nm, .int .i64 x.sh, .int .i64 x.us] 30) = U at HX3 HB3 HO3 ⊢
        generalize wr.heap.size = X at HX3 ⊢
        have x0 := HX3.out.cell 0 _ rfl
        have x1 := HX3.out.cell 1 _ rfl
        have x2 := HX3.out.cell 2 _ rfl
        clear c0 c1 c2 HB HO
        refine (bt_c _ _ _ _).mono ?_
        rintro e w1 ⟨rfl, rfl⟩
        cases hb1 : btB 1 x.sh 1000
        · have HN : Hid (¬ AOk l) := fun t => by
            have := (HK.out.1 t).1 x HM.out
            rw [shB, hb1] at this
            cases this
          clear hb1
          go_wp2_with fail
          go_ret
          exact says_no rfl HN.out HB3.out
        · go_wp2_with fail
          refine (bt_c _ _ _ _).mono ?_
          rintro e w1 ⟨rfl, rfl⟩
          cases hb2 : btB 0 x.us 1000000000
          · have HN : Hid (¬ AOk l) := fun t => by
              have := (HK.out.1 t).1 x HM.out
              rw [shB, hb1, hb2] at this
              cases this
            clear hb1 hb2
            go_wp2_with fail
            go_ret
            exact says_no rfl HN.out HB3.out
          · have HG2 : Hid (∀ (k : Nat) (x : Ac), k < j + 1 → l[k]? = some x → shB x = true) := fun k x' hk hx' => by
              by_cases e : k = j
              · subst e
                rw [HX.out] at hx'
                cases hx'
                rw [shB, hb1, hb2]; rfl
              · exact HG.out k x' (by omega) hx'
            clear hb1 hb2
            have HN4 : Hid (Row (w1.alloc (.cells #[.string x.nm] 9)) w1.heap.size [.string x.nm]) := row_fresh w1 [.string x.nm] 9
            have hs4 : w.heap.size ≤ (w1.alloc (.cells #[.string x.nm] 9)).heap.size := (behind_alloc HB3.out _).size
            go_wp2_with (at_builtin; refine wpList_append_own_at _ rfl _ _ 67 rfl w.heap.size 9 i0 (.string ByteArray.empty) 1 16 Try.underlying67 hi2 hz0 hz1 hz2 rfl (by decide) (.slice (some ⟨g, 0, none⟩) j c) j (nmV acc) rfl (HO3.out.alloc _) ⟨w1.heap.size, 0, none⟩ 1 1 [.string x.nm] rfl rfl ?c1 ?c2 ?c3 ?c4 hs4 ?_)
            case c1 =>
              intro q v hv
              rw [add_plain, Nat.zero_add]
              exact HN4.out.cell q v hv
            case c2 => simp [Value.oneCell']
            case c3 => unfold maxLen; omega
            case c4 => omega
            · intro v' w7 hown hgrow _ hat
              obtain ⟨g', c', rfl⟩ : ∃ g' c', v' = .slice (some ⟨g', 0, none⟩) (j + 1) c' := by
                rcases hown.2 with ⟨_, hz⟩ | ⟨g', cap, _, e, _⟩
                · omega
                · exact ⟨g', cap, e⟩
              have HO7 : Hid (w7.ownsRow w.heap.size 9 1 (.slice (some ⟨g', 0, none⟩) (j + 1) c') (j + 1) (nmV (acc ++ [x.nm]))) := by
                show World.ownsRow _ _ _ _ _ _ _
                rw [nmV_add]
                exact hown
              have HB7 : Hid (Below w.heap.size w w7) := (behind_alloc HB3.out _).grown hgrow hs4 (fun k hk => (HO3.out.lt k hk).1)
              clear hown hgrow hat HO3 HB3 hs4 HN4 x0 x1 x2
              go_wp2_with fail
              go_roundw
              case rel => exact ⟨j + 1, g', c', acc ++ [x.nm], by omega, by go_num, rfl, by rw [List.length_append, HAl.out]; rfl, HD.out, HG2.out, HO7.out, HB7.out⟩
              case measure => simp [intOf]; omega
      · have HE : Hid (acc = l.map (·.nm)) := by
          have e := HAc.out
          rw [List.drop_of_length_le (by omega), List.map_nil, List.append_nil] at e
          exact e
        have HS : Hid (Sq wr (some ⟨g, 0, none⟩) (nmV acc)) := Sq.of_row (owsRow HO.out).1
        have HK2 : Hid (WRi acc ↔ AOk l) := by
          show _ ↔ _
          rw [HE.out, HK.out]
          exact ⟨fun t => ⟨fun x hx => by
            obtain ⟨k, hk, e⟩ := List.getElem_of_mem hx
            exact HG.out k x (by omega) (by rw [← e]; exact List.getElem?_eq_getElem hk), t⟩, fun t => t.2⟩
        have hal := HAl.out
        clear HO HAc HE HK HG HAl
        subst hal
        go_wp2_with fail
        refine (wordsRise_c _ c acc (by omega) _ HS.out).mono ?_
        rintro e w2 ⟨k, rfl, hk, hb⟩
        have HB2 : Hid (Below w.heap.size w w2) := below_then HB.out hb
        have HK3 : Hid (k = true ↔ AOk l) := hk.trans HK2.out
        clear hk hb
        go_wp2_with fail
        go_ret
        exact ⟨_, rfl, HK3.out, HB2.out⟩
end Go.Proofs.Ytpjfampfhofeaaa

namespace Go.Proofs.Ytpjfampfhofeaaa
open Go.ChangeShapes Go.WideShapes Go.ChangeAt Go.RowKit

theorem at1_c (x : Ac) (s : ByteArray) (B : Nat) (w : World) (h : w.cell? ⟨B, 0, none⟩ = some (.string s)) :
    Calls Try.prog 58 #[.agg #[.string x.nm, .int .i64 x.sh, .int .i64 x.us], .pointer (some ⟨B, 0, none⟩)] w fun e w' => e = .returned (.bool (nmB x s)) ∧ Below w.heap.size w w' := by
  have hB : B < w.heap.size := World.block_lt_of_cell? w _ h
  have hne : B ≠ w.heap.size := by omega
  unfold nmB
  go_enter Try.func58, Try.ntmps58
  go_wp2_with fail
  go_ret
  exact ⟨rfl, by go_grown⟩
set_option maxHeartbeats 1000000 in
theorem idxAc_c (f : Option Addr) (m : Nat) (l : List Ac) (hx : l.length ≤ 1048576) (s : ByteArray) (B : Nat) (w : World) (h : Sq w f (flatAc l)) (hB : w.cell? ⟨B, 0, none⟩ = some (.string s)) :
    Calls Try.prog 57 #[.slice f l.length m, .func (.func 58) #[] #[.pointer (some ⟨B, 0, none⟩)]] w fun e w' => e = .returned (.int .i64 (atF l s 0)) ∧ Below w.heap.size w w' := by
  have H : Hid (Sq w f (flatAc l)) := h
  have HC : Hid (w.cell? ⟨B, 0, none⟩ = some (.string s)) := hB
  have HL : Hid (B < w.heap.size) := World.block_lt_of_cell? w _ hB
  clear h hB
  go_enter Try.func57, Try.ntmps57
  go_wp2_with fail
  go_loopw [8] (fun i wr => ∃ k : Nat, k ≤ l.length ∧ i = .int .i64 k ∧ atF (l.drop k) s k = atF l s 0 ∧ Below w.heap.size w wr) (fun i _ => l.length - (intOf i).toNat)
  case atStart => exact ⟨0, Nat.zero_le _, rfl, rfl, Below.refl _ _⟩
  case round =>
    obtain ⟨k, hk, rfl, hat, hb⟩ := hrel
    have HI : Hid (atF (l.drop k) s k = atF l s 0) := hat
    have HB : Hid (Below w.heap.size w wr) := hb
    clear hat hb
    by_cases hlt : k < l.length
    · have hj0 : (0 : Int) ≤ (k : Int) := by omega
      have hj1 : (k : Int) < (l.length : Int) := by omega
      have HX : Hid (l[k]? = some l[k]) := List.getElem?_eq_getElem hlt
      have HD : Hid (l.drop k = l[k] :: l.drop (k + 1)) := List.drop_eq_getElem_cons hlt
      obtain ⟨p, rfl⟩ := H.out.some_ofAc k hlt
      generalize l[k] = x at HX HD
      have c0 := (H.out.below HB.out).account0 HX.out
      have c1 := (H.out.below HB.out).accountK HX.out 1 (by decide) _ rfl
      have c2 := (H.out.below HB.out).accountK HX.out 2 (by decide) _ rfl
      go_wp2_with fail
      refine (at1_c x s B _ ((HB.out.cell (p := ⟨B, 0, none⟩) HL.out).trans HC.out)).mono ?_
      rintro e w1 ⟨rfl, hb⟩
      have HB1 : Hid (Below w.heap.size w w1) := below_then HB.out hb
      clear hb c0 c1 c2
      cases hq : nmB x s
      · have HI2 : Hid (atF (l.drop (k + 1)) s (k + 1) = atF l s 0) := by
          show _ = _
          rw [← HI.out, HD.out, atF, hq]
          simp
        clear hq
        go_wp2_with fail
        go_roundw
        case rel => exact ⟨k + 1, by omega, by go_num, HI2.out, HB1.out⟩
        case measure => simp [intOf]; omega
      · have HR : Hid (atF l s 0 = (k : Int)) := by
          show _ = _
          rw [← HI.out, HD.out, atF, hq]
          simp
        clear hq
        go_wp2_with fail
        go_ret
        exact ⟨by rw [HR.out]; rfl, HB1.out⟩
    · have HR : Hid (atF l s 0 = -1) := by
        show _ = _
        rw [← HI.out, List.drop_of_length_le (by omega)]
        rfl
      go_wp2_with fail
      go_ret
      exact ⟨by rw [HR.out]; rfl, HB.out⟩
noncomputable section
set_option maxHeartbeats 2000000 in
theorem implAccountAt_c (b : Option Addr) (d : Nat) (l : List Ac) (hl : l.length ≤ 1048576) (hz : ∀ x ∈ l, x.nm.size ≤ 1048576) (s : ByteArray) (w : World) (h : Sq w b (flatAc l)) :
    Calls Try.prog 29 #[.slice b l.length d, .string s] w fun e w' => e = .returned (.int .i64 (aAt l s)) ∧ Below w.heap.size w w' := by
  have H : Hid (Sq w b (flatAc l)) := h
  clear h
  go_enter Try.func29, Try.ntmps29
  go_wp2_with fail
  have HX0 : Hid ((w.alloc (.cells #[.string s] 9)).cell? ⟨w.heap.size, 0, none⟩ = some (.string s)) := (row_fresh w [.string s] 9).cell 0 _ rfl
  have HB0 : Hid (Below w.heap.size w (w.alloc (.cells #[.string s] 9))) := low_alloc _ _
  generalize w.alloc (.cells #[.string s] 9) = w0 at HX0 HB0 ⊢
  refine (implAccountsOk_c b d l hl hz _ (H.out.below HB0.out)).mono ?_
  rintro e w1 ⟨k, rfl, hk, hb⟩
  have HB1 : Hid (Below w.heap.size w w1) := below_then HB0.out hb
  have HX1 : Hid (w1.cell? ⟨w.heap.size, 0, none⟩ = some (.string s)) := (hb.cell (p := ⟨w.heap.size, 0, none⟩) (World.block_lt_of_cell? _ _ HX0.out)).trans HX0.out
  have HK : Hid (k = true ↔ AOk l) := hk
  clear hk hb
  cases k
  · have HN : Hid (aAt l s = -1) := by show _ = _; unfold aAt; rw [if_neg (fun t => by have := HK.out.2 t; cases this)]
    go_wp2_with fail
    go_ret
    exact ⟨by rw [HN.out]; rfl, HB1.out⟩
  · have HE : Hid (aAt l s = atF l s 0) := by show _ = _; unfold aAt; rw [if_pos (HK.out.1 rfl)]
    clear HK
    go_wp2_with fail
    refine (idxAc_c b d l hl s w.heap.size _ (H.out.below HB1.out) HX1.out).mono ?_
    rintro e w2 ⟨rfl, hb⟩
    have HB2 : Hid (Below w.heap.size w w2) := below_then HB1.out hb
    clear hb
    go_wp2_with fail
    go_ret
    exact ⟨by rw [HE.out]; rfl, HB2.out⟩
end
end Go.Proofs.Ytpjfampfhofeaaa
