/- Accounts: the specification's Charge and Fade. -/
import Derived.Test.YtpjfampfhofeaaaShB
import Derived.Test.YtpjfampfhofeaaaAcC
import Derived.Test.YtpjfampfhofeaaaOwT
import Derived.Test.YtpjfampfhofeaaaVecA
namespace Go.Proofs.Ytpjfampfhofeaaa
open Go.ChangeShapes Go.WideShapes Go.ChangeAt Go.RowKit

theorem szAcc : (Try.prog.info? 30).map (·.size) = some 3 := by kernel_rfl
theorem flatAc_one (l : List Ac) : ∀ u ∈ flatAc l, u.oneCell' = true := fun u hu => by
  simp only [flatAc, List.mem_flatMap] at hu
  obtain ⟨x, _, hx⟩ := hu
  simp only [Ac.cells, List.mem_cons, List.not_mem_nil, or_false] at hx
  rcases hx with rfl | rfl | rfl <;> rfl
theorem flatAc_add (xs ys : List Ac) : flatAc (xs ++ ys) = flatAc xs ++ flatAc ys := by simp [flatAc]
theorem flatAc_us {l : List Ac} {i : Nat} (n : Int) (h : i < l.length) : (flatAc l).set (i * 3 + 2) (.int .i64 n) = flatAc (l.set i { l[i] with us := n }) := by
  apply List.ext_getElem?
  intro m
  have hlen := flatAc_len l
  have hlen2 := flatAc_len (l.set i { l[i] with us := n })
  rw [List.length_set] at hlen2
  by_cases hm : m < 3 * l.length
  · have h2 := flatAc_get (l.set i { l[i] with us := n }) (m / 3) (m % 3) (by rw [List.length_set]; omega) (by omega)
    have h1 := flatAc_get l (m / 3) (m % 3) (by omega) (by omega)
    rw [show m / 3 * 3 + m % 3 = m by omega] at h1 h2
    rw [h2]
    by_cases e : m / 3 = i
    · subst e
      rw [show (l.set (m / 3) { l[m / 3] with us := n })[m / 3]'(by rw [List.length_set]; omega) = { l[m / 3] with us := n } by simp]
      by_cases e2 : m % 3 = 2
      · rw [show m / 3 * 3 + 2 = m by omega, List.getElem?_set_self (by omega), e2]
        rfl
      · rw [List.getElem?_set_ne (by omega), h1]
        obtain h | h : m % 3 = 0 ∨ m % 3 = 1 := by omega
        · rw [h]; rfl
        · rw [h]; rfl
    · rw [List.getElem?_set_ne (by omega), h1]
      rw [show (l.set i { l[i] with us := n })[m / 3]'(by rw [List.length_set]; omega) = l[m / 3]'(by omega) by rw [List.getElem_set_ne (fun e' => e e'.symm)]]
  · rw [List.getElem?_eq_none (by rw [List.length_set]; omega), List.getElem?_eq_none (by omega)]
/-- What Charge tells. -/
def RetK (w : World) (p : Prop) (r : List Ac) (e : Ending) (w' : World) : Prop :=
  ∃ k v, e = .returned (.tuple #[v, .bool k]) ∧ (k = true ↔ p) ∧ AnsAc w.heap.size w'.heap.size w' (bif k then r else []).length (flatAc (bif k then r else [])) v ∧ Below w.heap.size w w'
theorem RetK.no {w w' : World} {p : Prop} {r : List Ac} {e : Ending} (he : e = .returned (.tuple #[.slice none 0 0, .bool false])) (h : ¬ p) (hb : Below w.heap.size w w') : RetK w p r e w' :=
  ⟨false, _, he, by simp [h], AnsAc.none _ _ _ _ _, hb⟩
theorem RetK.yes {w w' : World} {p : Prop} {r : List Ac} {e : Ending} {v : Value} (he : e = .returned (.tuple #[v, .bool true])) (h : p) (ha : AnsAc w.heap.size w'.heap.size w' r.length (flatAc r) v) (hb : Below w.heap.size w w') : RetK w p r e w' :=
  ⟨true, _, he, by simp [h], ha, hb⟩
/-- Who is charged. -/
def chP (l : List Ac) (s : ByteArray) (n : Int) : Prop := 0 ≤ aAt l s ∧ useB n = true
noncomputable def chR (l : List Ac) (s : ByteArray) (n : Int) : List Ac := chL l (aAt l s).toNat n
def RetF (w : World) (r : List Ac) (e : Ending) (w' : World) : Prop :=
  ∃ v, e = .returned v ∧ AnsAc w.heap.size w'.heap.size w' r.length (flatAc r) v ∧ Below w.heap.size w w'
theorem infoAcc : (Try.prog.info? 30).map (fun i => (i.zero, i.size, i.bytes)) = some (some (.agg #[.string ⟨#[]⟩, .int .i64 0, .int .i64 0]), 3, 32) := by kernel_rfl
set_option maxHeartbeats 4000000 in
set_option maxRecDepth 100000 in
theorem specCharge_c (b : Option Addr) (d : Nat) (l : List Ac) (hl : l.length ≤ 1048576) (hz : ∀ x ∈ l, x.nm.size ≤ 1048576) (s : ByteArray) (n : Int) (w : World) (h : Sq w b (flatAc l)) :
    Calls Try.prog 19 #[.slice b l.length d, .string s, .int .i64 n] w (RetK w (chP l s n) (chR l s n)) := by
  have H : Hid (Sq w b (flatAc l)) := h
  clear h
  go_enter Try.func19, Try.ntmps19
  go_wp2_with fail
  refine (specAccountAt_c b d l hl hz s _ H.out).mono ?_
  rintro e w1 ⟨rfl, hb⟩
  have HB1 : Hid (Below w.heap.size w w1) := hb
  clear hb
  rcases aAt_in l s with ha | ⟨i, hi, ha, hok⟩
  · have HN : Hid (¬ chP l s n) := fun t => by have := t.1; rw [ha] at this; omega
    rw [ha]
    clear ha
    go_wp2_with fail
    go_ret2
    exact RetK.no rfl HN.out HB1.out
  · have HA : Hid (aAt l s = (i : Int)) := ha
    have HOk : Hid (AOk l) := hok
    rw [ha]
    have hi0 : (0 : Int) ≤ (i : Int) := by omega
    have hi1 : (i : Int) < (l.length : Int) := by omega
    clear ha hok
    go_wp2_with fail
    refine (l11Used_c n _).mono ?_
    rintro e w2 ⟨rfl, rfl⟩
    cases hu : useB n
    · have HN : Hid (¬ chP l s n) := fun t => by have := t.2; rw [hu] at this; cases this
      clear hu
      go_wp2_with fail
      go_ret2
      exact RetK.no rfl HN.out HB1.out
    · have HP : Hid (chP l s n) := ⟨by rw [HA.out]; omega, hu⟩
      have hn : 0 ≤ n ∧ n ≤ 1000000000 := by simpa [useB] using hu
      have hx := acc_parts (HOk.out.acc (List.getElem_mem hi))
      have HR : Hid (chR l s n = l.set i { l[i] with us := min (l[i].us + n) 1000000000 }) := by
        show _ = _
        unfold chR chL chA
        rw [HA.out, Int.toNat_natCast, ag_eq hi]
      have HX : Hid ((flatAc l)[i * 3 + 2]? = some (.int .i64 l[i].us)) := (flatAc_get l i 2 hi (by decide)).trans rfl
      have HF : Hid ((flatAc l).set (i * 3 + 2) (.int .i64 (min (l[i].us + n) 1000000000)) = flatAc (l.set i { l[i] with us := min (l[i].us + n) 1000000000 })) := flatAc_us _ hi
      rw [← HR.out] at HF
      generalize hus : l[i].us = us at HX HF hx
      have hn0 := hn.1
      have hn1 := hn.2
      have hu0 := hx.2.2.2.1
      have hu1 := hx.2.2.2.2
      have HRl : Hid ((chR l s n).length = l.length) := by show _ = _; rw [HR.out, List.length_set]
      have h12 : l.length ≤ 12 := HOk.out.1
      clear hu hn hx hus HR
      obtain ⟨i0, hi2, hz0, hz1, hz2⟩ := info_parts infoAcc
      have HB2 : Hid (Below w.heap.size w (w2.alloc (.cells #[] 30))) := behind_alloc HB1.out _
      have HS2 : Hid (Sq (w2.alloc (.cells #[] 30)) b (flatAc l)) := H.out.below HB2.out
      have HO2 : Hid ((w2.alloc (.cells #[] 30)).ownsRow w2.heap.size 30 3 (.slice (some ⟨w2.heap.size, 0, none⟩) 0 0) 0 []) := World.ownsRow_made w2 #[] 0 (Nat.le_refl _) (by decide) rfl
      have hw1 := HB1.out.size
      have hs2 : w2.heap.size ≤ (w2.alloc (.cells #[] 30)).heap.size := by simp [go_sem]
      go_wp2_with (at_builtin; refine wplAppAny rfl _ rfl _ _ 23 rfl w2.heap.size 30 i0 (.agg #[.string ⟨#[]⟩, .int .i64 0, .int .i64 0]) 3 32 Try.underlying23 hi2 hz0 hz1 hz2 rfl (by decide) w2.heap.size 0 0 [] rfl HO2.out b l.length d (flatAc l) rfl (by rw [flatAc_len]; omega) HS2.out (flatAc_one _) (by unfold maxLen; omega) (by omega) hs2 ?_)
      intro gk ck wk hown hgrow
      rw [Nat.zero_add, List.nil_append] at hown
      rw [Nat.zero_add]
      have HB3 : Hid (Below w.heap.size w wk) := HB2.out.grown hgrow (by have := HB2.out.size; omega) (fun q hq => by cases hq; omega)
      have HO3 : Hid (wk.ownsRow w.heap.size 30 3 (.slice (some ⟨gk, 0, none⟩) l.length ck) l.length (flatAc l)) := owsMono hown hw1
      have HR3 : Hid (Row wk gk (flatAc l)) := (owsRow hown).1
      have hgk : w.heap.size ≤ gk := by have := (owsRow hown).2.1; omega
      clear hown hgrow HB2 HS2 HO2 hs2 hi2 hz0 hz1 hz2
      have c2 := HR3.out.cell (i * 3 + 2) _ HX.out
      have f2 := HR3.out.free (i * 3 + 2)
      go_wp2_with fail
      refine (l01Min_c (us + n) 1000000000 _).mono ?_
      rintro e w5 ⟨rfl, rfl⟩
      have HO4 : Hid ((w5.setCell ⟨gk, i * 3 + 2, none⟩ (.int .i64 (min (us + n) 1000000000))).ownsRow w.heap.size 30 3 (.slice (some ⟨gk, 0, none⟩) l.length ck) l.length (flatAc (chR l s n))) := by
        show World.ownsRow _ _ _ _ _ _ _
        rw [← HF.out]
        exact (World.ownsRow.stored HO3.out (i * 3 + 2) _).1
      have HB4 : Hid (Below w.heap.size w (w5.setCell ⟨gk, i * 3 + 2, none⟩ (.int .i64 (min (us + n) 1000000000)))) := HB3.out.setCell (p := ⟨gk, i * 3 + 2, none⟩) hgk _
      go_wp2_with fail
      go_ret2
      exact RetK.yes rfl HP.out (by rw [HRl.out]; exact AnsAc.of_owns HO4.out) HB4.out
end Go.Proofs.Ytpjfampfhofeaaa
