/- Accounts: the program's copyAccounts, Charge and Fade. -/
import Derived.Test.YtpjfampfhofeaaaScC
import Derived.Laws.Cover3
import Derived.Test.YtpjfampfhofeaaaShD
namespace Go.Proofs.Ytpjfampfhofeaaa
open Go.ChangeShapes Go.WideShapes Go.ChangeAt Go.RowKit

theorem cloneS_c (s : ByteArray) (hs : s.size ≤ 281474976710656) (w : World) :
    Calls Try.prog 69 #[.string s] w fun e w' => e = .returned (.string s) ∧ Below w.heap.size w w' := by
  go_enter Try.func69, Try.ntmps69
  go_wp2_with fail
  refine (Try.stringslite_Clone s _ hs).mono ?_
  rintro e w1 ⟨rfl, hb1⟩
  go_wp2_with fail
  go_ret
  exact ⟨rfl, hb1⟩
theorem set_same {xs : List Value} {i : Nat} {v : Value} (h : xs[i]? = some v) : xs.set i v = xs := by
  apply List.ext_getElem?
  intro m
  by_cases e : i = m
  · subst e
    rw [List.getElem?_set_self (List.getElem?_eq_some_iff.1 h).1, h]
  · rw [List.getElem?_set_ne e]
set_option maxHeartbeats 1000000 in
theorem cloneAc_c (b : Option Addr) (d : Nat) (l : List Ac) (hl : l.length ≤ 1048576) (w : World) (h : Sq w b (flatAc l)) :
    Calls Try.prog 68 #[.slice b l.length d] w fun e w' => ∃ v, e = .returned v ∧ w'.ownsRow w.heap.size 30 3 v l.length (flatAc l) ∧ Below w.heap.size w w' := by
  have H : Hid (Sq w b (flatAc l)) := h
  clear h
  have heq : ∀ W : World, (binOp .eql 23 (.slice b l.length d) (.slice none 0 0)).run Try.prog W = .ok (.bool (b == none)) W := fun W => by
    simp only [binOp]
    simp [run_equal_slice_nil W 23 30 b l.length d Try.underlying23]
  cases b with
  | none =>
    have h0 : l = [] := by
      cases l with
      | nil => rfl
      | cons x r =>
        obtain ⟨p, hp⟩ := H.out.some_ofAc 0 (by simp)
        cases hp
    subst h0
    have heq0 : ∀ W : World, (binOp .eql 23 (.slice none 0 d) (.slice none 0 0)).run Try.prog W = .ok (.bool true) W := heq
    clear heq
    go_enter Try.func68, Try.ntmps68
    go_wp2_with fail
    go_ret
    exact ⟨_, rfl, World.ownsRow_nil _ _ _ _, Below.refl _ _⟩
  | some q =>
    have heq0 : ∀ W : World, (binOp .eql 23 (.slice (some q) l.length d) (.slice none 0 0)).run Try.prog W = .ok (.bool false) W := heq
    clear heq
    obtain ⟨i0, hi2, hz0, hz1, hz2⟩ := info_parts infoAcc
    have HB2 : Hid (Below w.heap.size w (w.alloc (.cells #[] 30))) := low_alloc _ _
    have HS2 : Hid (Sq (w.alloc (.cells #[] 30)) (some q) (flatAc l)) := H.out.below HB2.out
    have HO2 : Hid ((w.alloc (.cells #[] 30)).ownsRow w.heap.size 30 3 (.slice (some ⟨w.heap.size, 0, none⟩) 0 0) 0 []) := World.ownsRow_made w #[] 0 (Nat.le_refl _) (by decide) rfl
    have hs2 : w.heap.size ≤ (w.alloc (.cells #[] 30)).heap.size := by simp [go_sem]
    go_enter Try.func68, Try.ntmps68
    go_wp2_with (at_builtin; refine wplAppAny rfl _ rfl _ _ 23 rfl w.heap.size 30 i0 (.agg #[.string ⟨#[]⟩, .int .i64 0, .int .i64 0]) 3 32 Try.underlying23 hi2 hz0 hz1 hz2 rfl (by decide) w.heap.size 0 0 [] rfl HO2.out (some q) l.length d (flatAc l) rfl (by rw [flatAc_len]; omega) HS2.out (flatAc_one _) (by unfold maxLen; omega) (by omega) hs2 ?_)
    intro gk ck wk hown hgrow
    rw [Nat.zero_add, List.nil_append] at hown
    rw [Nat.zero_add]
    have HB3 : Hid (Below w.heap.size w wk) := HB2.out.grown hgrow hs2 (fun q hq => by cases hq; omega)
    have HO3 : Hid (wk.ownsRow w.heap.size 30 3 (.slice (some ⟨gk, 0, none⟩) l.length ck) l.length (flatAc l)) := hown
    clear hown hgrow HB2 HS2 HO2 hs2 hi2 hz0 hz1 hz2
    go_wp2_with fail
    go_ret
    exact ⟨_, rfl, HO3.out, HB3.out⟩
set_option maxHeartbeats 2000000 in
theorem copyAc_c (b : Option Addr) (d : Nat) (l : List Ac) (hl : l.length ≤ 1048576) (hz : ∀ x ∈ l, x.nm.size ≤ 1048576) (w : World) (h : Sq w b (flatAc l)) :
    Calls Try.prog 48 #[.slice b l.length d] w fun e w' => ∃ v, e = .returned v ∧ w'.ownsRow w.heap.size 30 3 v l.length (flatAc l) ∧ Below w.heap.size w w' := by
  have H : Hid (Sq w b (flatAc l)) := h
  clear h
  go_enter Try.func48, Try.ntmps48
  go_wp2_with fail
  refine (cloneAc_c b d l hl _ H.out).mono ?_
  rintro e w1 ⟨v, rfl, ho, hb⟩
  obtain ⟨a, c, rfl⟩ := owsForm ho
  have HO1 : Hid (w1.ownsRow w.heap.size 30 3 (.slice a l.length c) l.length (flatAc l)) := ho
  have HB1 : Hid (Below w.heap.size w w1) := hb
  clear ho hb
  go_wp2_with fail
  go_loopw [10] (fun i wr => ∃ j : Nat, j ≤ l.length ∧ i = .int .i64 j ∧ wr.ownsRow w.heap.size 30 3 (.slice a l.length c) l.length (flatAc l) ∧ Below w.heap.size w wr) (fun i _ => l.length - (intOf i).toNat)
  case atStart => exact ⟨0, Nat.zero_le _, rfl, HO1.out, HB1.out⟩
  case round =>
    obtain ⟨j, hj, rfl, ho, hb⟩ := hrel
    have HO : Hid (wr.ownsRow w.heap.size 30 3 (.slice a l.length c) l.length (flatAc l)) := ho
    have HB : Hid (Below w.heap.size w wr) := hb
    clear ho hb HO1 HB1
    by_cases hlt : j < l.length
    · have hj0 : (0 : Int) ≤ (j : Int) := by omega
      have hj1 : (j : Int) < (l.length : Int) := by omega
      obtain ⟨g, rfl⟩ : ∃ g, a = some ⟨g, 0, none⟩ := by
        rcases HO.out.2 with ⟨_, hz⟩ | ⟨g', cap, _, e, _⟩
        · omega
        · cases e; exact ⟨_, rfl⟩
      have HR : Hid (Row wr g (flatAc l)) := (owsRow HO.out).1
      have hgk : w.heap.size ≤ g := (owsRow HO.out).2.1
      have X0 : Hid ((flatAc l)[j * 3]? = some (.string l[j].nm)) := (flatAc_get l j 0 hlt (by decide)).trans rfl
      have X1 : Hid ((flatAc l)[j * 3 + 1]? = some (.int .i64 l[j].sh)) := (flatAc_get l j 1 hlt (by decide)).trans rfl
      have X2 : Hid ((flatAc l)[j * 3 + 2]? = some (.int .i64 l[j].us)) := (flatAc_get l j 2 hlt (by decide)).trans rfl
      have HS : Hid (l[j].nm.size ≤ 1048576) := hz _ (List.getElem_mem hlt)
      generalize l[j] = x at X0 X1 X2 HS
      have c0 := HR.out.cell (j * 3) _ X0.out
      have c1 := HR.out.cell (j * 3 + 1) _ X1.out
      have c2 := HR.out.cell (j * 3 + 2) _ X2.out
      go_wp2_with fail
      have HX3 : Hid (Row (wr.alloc (.cells #[.string x.nm, .int .i64 x.sh, .int .i64 x.us] 30)) wr.heap.size [.string x.nm, .int .i64 x.sh, .int .i64 x.us]) := row_fresh wr [.string x.nm, .int .i64 x.sh, .int .i64 x.us] 30
      have HB3 : Hid (Below w.heap.size w (wr.alloc (.cells #[.string x.nm, .int .i64 x.sh, .int .i64 x.us] 30))) := behind_alloc HB.out _
      have HO3 : Hid ((wr.alloc (.cells #[.string x.nm, .int .i64 x.sh, .int .i64 x.us] 30)).ownsRow w.heap.size 30 3 (.slice (some ⟨g, 0, none⟩) l.length c) l.length (flatAc l)) := HO.out.alloc _
      generalize wr.alloc (.cells #[.string x.nm, .int .i64 x.sh, .int .i64 x.us] 30) = U at HX3 HB3 HO3 ⊢
      generalize wr.heap.size = X at HX3 ⊢
      clear c0 c1 c2 HB HO HR
      have x0 := HX3.out.cell 0 _ rfl
      go_wp2_with fail
      refine (cloneS_c x.nm (Nat.le_trans HS.out (by decide)) _).mono ?_
      rintro e w5 ⟨rfl, hb⟩
      have HB5 : Hid (Below w.heap.size w w5) := below_then HB3.out hb
      have HO5 : Hid (w5.ownsRow w.heap.size 30 3 (.slice (some ⟨g, 0, none⟩) l.length c) l.length (flatAc l)) := owsBelow HO3.out hb
      have HR5 : Hid (Row w5 g (flatAc l)) := (owsRow HO5.out).1
      have c5 := HR5.out.cell (j * 3) _ X0.out
      have f5 := HR5.out.free (j * 3)
      have HO6 : Hid ((w5.setCell ⟨g, j * 3, none⟩ (.string x.nm)).ownsRow w.heap.size 30 3 (.slice (some ⟨g, 0, none⟩) l.length c) l.length (flatAc l)) := by
        have h := (World.ownsRow.stored HO5.out (j * 3) (.string x.nm)).1
        rwa [set_same X0.out] at h
      have HB6 : Hid (Below w.heap.size w (w5.setCell ⟨g, j * 3, none⟩ (.string x.nm))) := HB5.out.setCell (p := ⟨g, j * 3, none⟩) hgk _
      clear hb HB3 HO3 x0 HX3
      go_wp2_with fail
      go_roundw
      case rel => exact ⟨j + 1, by omega, by go_num, HO6.out, HB6.out⟩
      case measure => simp [intOf]; omega
    · go_wp2_with fail
      go_ret
      exact ⟨_, rfl, HO.out, HB.out⟩
noncomputable section
set_option maxHeartbeats 4000000 in
theorem implCharge_c (b : Option Addr) (d : Nat) (l : List Ac) (hl : l.length ≤ 1048576) (hz : ∀ x ∈ l, x.nm.size ≤ 1048576) (s : ByteArray) (n : Int) (w : World) (h : Sq w b (flatAc l)) :
    Calls Try.prog 18 #[.slice b l.length d, .string s, .int .i64 n] w (RetK w (chP l s n) (chR l s n)) := by
  have H : Hid (Sq w b (flatAc l)) := h
  clear h
  go_enter Try.func18, Try.ntmps18
  go_wp2_with fail
  refine (implAccountAt_c b d l hl hz s _ H.out).mono ?_
  rintro e w1 ⟨rfl, hb⟩
  have HB1 : Hid (Below w.heap.size w w1) := hb
  clear hb
  rcases aAt_in l s with ha | ⟨i, hi, ha, hok⟩
  · have HN : Hid (¬ chP l s n) := fun t => by have := t.1; rw [ha] at this; omega
    rw [ha]
    clear ha
    go_wp2_with fail
    go_ret2
    exact RetK.no rfl HN.out HB1.out
  · have HA : Hid (aAt l s = (i : Int)) := ha
    have HOk : Hid (AOk l) := hok
    rw [ha]
    have hi0 : (0 : Int) ≤ (i : Int) := by omega
    have hi1 : (i : Int) < (l.length : Int) := by omega
    clear ha hok
    go_wp2_with fail
    refine (bt_c _ _ _ _).mono ?_
    rintro e w2 ⟨rfl, rfl⟩
    have hbu : btB 0 n 1000000000 = useB n := rfl
    rw [hbu]
    clear hbu
    cases hu : useB n
    · have HN : Hid (¬ chP l s n) := fun t => by have := t.2; rw [hu] at this; cases this
      clear hu
      go_wp2_with fail
      go_ret2
      exact RetK.no rfl HN.out HB1.out
    · have HP : Hid (chP l s n) := ⟨by rw [HA.out]; omega, hu⟩
      have hn : 0 ≤ n ∧ n ≤ 1000000000 := by simpa [useB] using hu
      have hx := acc_parts (HOk.out.acc (List.getElem_mem hi))
      have HR : Hid (chR l s n = l.set i { l[i] with us := min (l[i].us + n) 1000000000 }) := by
        show _ = _
        unfold chR chL chA
        rw [HA.out, Int.toNat_natCast, ag_eq hi]
      have HX : Hid ((flatAc l)[i * 3 + 2]? = some (.int .i64 l[i].us)) := (flatAc_get l i 2 hi (by decide)).trans rfl
      have HF : Hid ((flatAc l).set (i * 3 + 2) (.int .i64 (min (l[i].us + n) 1000000000)) = flatAc (l.set i { l[i] with us := min (l[i].us + n) 1000000000 })) := flatAc_us _ hi
      rw [← HR.out] at HF
      generalize hus : l[i].us = us at HX HF hx
      have hn0 := hn.1
      have hn1 := hn.2
      have hu0 := hx.2.2.2.1
      have hu1 := hx.2.2.2.2
      have HRl : Hid ((chR l s n).length = l.length) := by show _ = _; rw [HR.out, List.length_set]
      clear hu hn hx hus HR
      go_wp2_with fail
      refine (copyAc_c b d l hl hz _ (H.out.below HB1.out)).mono ?_
      rintro e w3 ⟨v, rfl, ho, hb⟩
      have HB3 : Hid (Below w.heap.size w w3) := below_then HB1.out hb
      have HO3 : Hid (w3.ownsRow w.heap.size 30 3 v l.length (flatAc l)) := owsMono ho HB1.out.size
      clear ho hb
      obtain ⟨gk, ck, rfl⟩ : ∃ g c, v = .slice (some ⟨g, 0, none⟩) l.length c := by
        rcases HO3.out.2 with ⟨_, hz⟩ | ⟨g', cap, _, e, _⟩
        · omega
        · exact ⟨_, _, e⟩
      have HR3 : Hid (Row w3 gk (flatAc l)) := (owsRow HO3.out).1
      have hgk : w.heap.size ≤ gk := (owsRow HO3.out).2.1
      have c2 := HR3.out.cell (i * 3 + 2) _ HX.out
      have f2 := HR3.out.free (i * 3 + 2)
      have HO4 : Hid ((w3.setCell ⟨gk, i * 3 + 2, none⟩ (.int .i64 (min (us + n) 1000000000))).ownsRow w.heap.size 30 3 (.slice (some ⟨gk, 0, none⟩) l.length ck) l.length (flatAc (chR l s n))) := by
        show World.ownsRow _ _ _ _ _ _ _
        rw [← HF.out]
        exact (World.ownsRow.stored HO3.out (i * 3 + 2) _).1
      have HB4 : Hid (Below w.heap.size w (w3.setCell ⟨gk, i * 3 + 2, none⟩ (.int .i64 (min (us + n) 1000000000)))) := HB3.out.setCell (p := ⟨gk, i * 3 + 2, none⟩) hgk _
      generalize hm : min (us + n) 1000000000 = m at HO4 HB4
      by_cases hle : us + n ≤ 1000000000
      · have hmm : m = us + n := by omega
        subst hmm
        go_wp2_with fail
        go_ret2
        exact RetK.yes rfl HP.out (by rw [HRl.out]; exact AnsAc.of_owns HO4.out) HB4.out
      · have hmm : m = 1000000000 := by omega
        subst hmm
        go_wp2_with fail
        go_ret2
        exact RetK.yes rfl HP.out (by rw [HRl.out]; exact AnsAc.of_owns HO4.out) HB4.out
end
end Go.Proofs.Ytpjfampfhofeaaa

namespace Go.Proofs.Ytpjfampfhofeaaa
open Go.ChangeShapes Go.WideShapes Go.ChangeAt Go.RowKit

/-- The first j are halved. -/
def Fdd (l xs : List Ac) (j : Nat) : Prop := xs.length = l.length ∧ ∀ m, xs[m]? = if m < j then (l[m]?).map fdA else l[m]?
theorem Fdd.start (l : List Ac) : Fdd l l 0 := ⟨rfl, fun m => by rw [if_neg (by omega)]⟩
theorem Fdd.at {l xs : List Ac} {j : Nat} (h : Fdd l xs j) (hj : j < l.length) : ∃ h2 : j < xs.length, xs[j] = l[j] := by
  have h2 : j < xs.length := by rw [h.1]; exact hj
  refine ⟨h2, ?_⟩
  have h3 := h.2 j
  rw [if_neg (by omega), List.getElem?_eq_getElem h2, List.getElem?_eq_getElem hj] at h3
  exact Option.some.inj h3
theorem Fdd.step {l xs : List Ac} {j : Nat} (h : Fdd l xs j) (hj : j < l.length) : Fdd l (xs.set j (fdA l[j])) (j + 1) := by
  refine ⟨by rw [List.length_set]; exact h.1, fun m => ?_⟩
  by_cases e : m = j
  · subst e
    rw [List.getElem?_set_self (by rw [h.1]; exact hj), if_pos (by omega), List.getElem?_eq_getElem hj]
    rfl
  · rw [List.getElem?_set_ne (fun t => e t.symm), h.2 m]
    by_cases h1 : m < j
    · rw [if_pos h1, if_pos (by omega)]
    · rw [if_neg h1, if_neg (by omega)]
theorem Fdd.done {l xs : List Ac} {j : Nat} (h : Fdd l xs j) (hj : l.length ≤ j) : xs = l.map fdA := by
  apply List.ext_getElem?
  intro m
  rw [h.2 m, List.getElem?_map]
  by_cases h1 : m < j
  · rw [if_pos h1]
  · rw [if_neg h1, List.getElem?_eq_none (by omega)]; rfl
noncomputable section
set_option maxHeartbeats 4000000 in
theorem implFade_c (b : Option Addr) (d : Nat) (l : List Ac) (hl : l.length ≤ 1048576) (hz : ∀ x ∈ l, x.nm.size ≤ 1048576) (w : World) (h : Sq w b (flatAc l)) :
    Calls Try.prog 20 #[.slice b l.length d] w (RetF w (fdL l)) := by
  have H : Hid (Sq w b (flatAc l)) := h
  clear h
  go_enter Try.func20, Try.ntmps20
  go_wp2_with fail
  refine (implAccountsOk_c b d l hl hz _ H.out).mono ?_
  rintro e w1 ⟨k, rfl, hk, hb⟩
  have HB1 : Hid (Below w.heap.size w w1) := hb
  have HK : Hid (k = true ↔ AOk l) := hk
  clear hk hb
  cases k
  · have HN : Hid (fdL l = []) := fdL_no (fun t => by have := HK.out.2 t; cases this)
    go_wp2_with fail
    go_ret
    exact ⟨_, rfl, by rw [HN.out]; exact AnsAc.none _ _ _ _ _, HB1.out⟩
  · have HY : Hid (AOk l) := HK.out.1 rfl
    have HE : Hid (fdL l = l.map fdA) := fdL_yes HY.out
    have h12 : l.length ≤ 12 := HY.out.1
    clear HK
    go_wp2_with fail
    refine (copyAc_c b d l hl hz _ (H.out.below HB1.out)).mono ?_
    rintro e w2 ⟨v, rfl, ho, hb⟩
    obtain ⟨a, c, rfl⟩ := owsForm ho
    have HB2 : Hid (Below w.heap.size w w2) := below_then HB1.out hb
    have HO2 : Hid (w2.ownsRow w.heap.size 30 3 (.slice a l.length c) l.length (flatAc l)) := owsMono ho HB1.out.size
    clear ho hb HB1
    go_wp2_with fail
    go_loopw [12] (fun i wr => ∃ (j : Nat) (xs : List Ac), j ≤ l.length ∧ i = .int .i64 j ∧ Fdd l xs j ∧ wr.ownsRow w.heap.size 30 3 (.slice a l.length c) l.length (flatAc xs) ∧ Below w.heap.size w wr) (fun i _ => l.length - (intOf i).toNat)
    case atStart => exact ⟨0, l, Nat.zero_le _, rfl, Fdd.start l, HO2.out, HB2.out⟩
    case round =>
      obtain ⟨j, xs, hj, rfl, hf, ho, hb⟩ := hrel
      have HF : Hid (Fdd l xs j) := hf
      have HO : Hid (wr.ownsRow w.heap.size 30 3 (.slice a l.length c) l.length (flatAc xs)) := ho
      have HB : Hid (Below w.heap.size w wr) := hb
      clear hf ho hb HO2 HB2
      by_cases hlt : j < l.length
      · have hj0 : (0 : Int) ≤ (j : Int) := by omega
        have hj1 : (j : Int) < (l.length : Int) := by omega
        obtain ⟨g, rfl⟩ : ∃ g, a = some ⟨g, 0, none⟩ := by
          rcases HO.out.2 with ⟨_, hz⟩ | ⟨g', cap, _, e, _⟩
          · omega
          · cases e; exact ⟨_, rfl⟩
        have HR : Hid (Row wr g (flatAc xs)) := (owsRow HO.out).1
        have hgk : w.heap.size ≤ g := (owsRow HO.out).2.1
        have HF2 : Hid (Fdd l (xs.set j (fdA l[j])) (j + 1)) := HF.out.step hlt
        obtain ⟨h2, hxj⟩ := HF.out.at hlt
        have HX : Hid ((flatAc xs)[j * 3 + 2]? = some (.int .i64 xs[j].us)) := (flatAc_get xs j 2 h2 (by decide)).trans rfl
        have HT : Hid ((flatAc xs).set (j * 3 + 2) (.int .i64 (xs[j].us.tdiv 2)) = flatAc (xs.set j { xs[j] with us := xs[j].us.tdiv 2 })) := flatAc_us _ h2
        have hfd : fdA l[j] = { xs[j] with us := xs[j].us.tdiv 2 } := by rw [hxj]; rfl
        rw [← hfd] at HT
        have hx := acc_parts (HY.out.acc (List.getElem_mem hlt))
        rw [← hxj] at hx
        generalize xs[j].us = us at HX HT hx
        have hu0 := hx.2.2.2.1
        have hu1 := hx.2.2.2.2
        have hq0 : 0 ≤ us.tdiv 2 := Int.tdiv_nonneg hu0 (by decide)
        have hq1 : us.tdiv 2 ≤ 1000000000 := by rw [Int.tdiv_eq_ediv_of_nonneg hu0]; omega
        have c2 := HR.out.cell (j * 3 + 2) _ HX.out
        have f2 := HR.out.free (j * 3 + 2)
        have HO4 : Hid ((wr.setCell ⟨g, j * 3 + 2, none⟩ (.int .i64 (us.tdiv 2))).ownsRow w.heap.size 30 3 (.slice (some ⟨g, 0, none⟩) l.length c) l.length (flatAc (xs.set j (fdA l[j])))) := by
          show World.ownsRow _ _ _ _ _ _ _
          rw [← HT.out]
          exact (World.ownsRow.stored HO.out (j * 3 + 2) _).1
        have HB4 : Hid (Below w.heap.size w (wr.setCell ⟨g, j * 3 + 2, none⟩ (.int .i64 (us.tdiv 2)))) := HB.out.setCell (p := ⟨g, j * 3 + 2, none⟩) hgk _
        clear hx hfd hxj
        go_wp2_with fail
        go_roundw
        case rel => exact ⟨j + 1, _, by omega, by go_num, HF2.out, HO4.out, HB4.out⟩
        case measure => simp [intOf]; omega
      · have HD : Hid (xs = fdL l) := by show _ = _; rw [HE.out]; exact HF.out.done (by omega)
        have HLn : Hid ((fdL l).length = l.length) := by show _ = _; rw [HE.out, List.length_map]
        go_wp2_with fail
        go_ret
        exact ⟨_, rfl, by rw [HLn.out, ← HD.out]; exact AnsAc.of_owns HO.out, HB.out⟩
end
end Go.Proofs.Ytpjfampfhofeaaa
