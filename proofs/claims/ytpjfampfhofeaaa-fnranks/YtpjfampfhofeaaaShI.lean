/- Accounts: the program's RankPrio; all of its answers stand. -/
import Derived.Test.YtpjfampfhofeaaaScI
import Derived.Test.YtpjfampfhofeaaaScE
namespace Go.Proofs.Ytpjfampfhofeaaa
open Go.ChangeShapes Go.WideShapes Go.ChangeAt Go.RowKit

noncomputable section
set_option maxHeartbeats 4000000 in
set_option maxRecDepth 100000 in
theorem implRankPrio_c (b : Option Addr) (d : Nat) (l : List Ac) (hl : l.length ≤ 1048576) (hz : ∀ x ∈ l, x.nm.size ≤ 1048576) (s : ByteArray) (base : Int) (w : World) (h : Sq w b (flatAc l)) :
    Calls Try.prog 16 #[.slice b l.length d, .string s, .int .i64 base] w fun e w' => e = .returned (.int .i64 (rpI l s base)) ∧ Below w.heap.size w w' := by
  have H : Hid (Sq w b (flatAc l)) := h
  clear h
  go_enter Try.func16, Try.ntmps16
  go_wp2_with fail
  refine (implAccountAt_c b d l hl hz s _ H.out).mono ?_
  rintro e w1 ⟨rfl, hb⟩
  have HB1 : Hid (Below w.heap.size w w1) := hb
  clear hb
  rcases aAt_in l s with ha | ⟨i, hi, ha, hok⟩
  · have HN : Hid (rpI l s base = -1) := rpI_no (fun t => by have := t.1; rw [ha] at this; omega)
    rw [ha]
    clear ha
    go_wp2_with fail
    go_ret
    exact ⟨by rw [HN.out]; rfl, HB1.out⟩
  · have HA : Hid (aAt l s = (i : Int)) := ha
    rw [ha]
    have hi0 : (0 : Int) ≤ (i : Int) := by omega
    clear ha
    go_wp2_with fail
    refine (bt_c _ _ _ _).mono ?_
    rintro e w2 ⟨rfl, rfl⟩
    cases hbb : btB 0 base 999
    · have HN : Hid (rpI l s base = -1) := rpI_no (fun t => by simp [btB] at hbb; omega)
      clear hbb
      go_wp2_with fail
      go_ret
      exact ⟨by rw [HN.out]; rfl, HB1.out⟩
    · have hba : 0 ≤ base ∧ base ≤ 999 := by simpa [btB] using hbb
      have h1 := hba.1
      have h2 := hba.2
      clear hbb hba
      have HY : Hid (rpI l s base = if base - (rkL l).getD (aAt l s).toNat 0 < 0 then 0 else base - (rkL l).getD (aAt l s).toNat 0) := rpI_yes ⟨by rw [HA.out]; omega, by omega, by omega⟩
      have hrl : (rkL l).length = l.length := by rw [rkL_yes hok, List.length_map]
      have hri : i < (rkL l).length := by omega
      have HG : Hid ((rkL l).getD (aAt l s).toNat 0 = (rkL l)[i]) := by show _ = _; rw [HA.out, Int.toNat_natCast]; simp [hri]
      have hb0 : 0 ≤ (rkL l)[i] ∧ (rkL l)[i] ≤ 12 := by
        have e : (rkL l)[i] = (rkOf l l[i] : Int) := by simp [rkL_yes hok]
        rw [e]
        have := rkOf_le l l[i]
        have := hok.1
        omega
      have HI : Hid ((ints (rkL l))[i]? = some (.int .i64 (rkL l)[i])) := ints_at (rkL l) i hri
      rw [HG.out] at HY
      generalize (rkL l)[i] = m at HY HI hb0
      have hm0 := hb0.1
      have hm1 := hb0.2
      have hi1 : (i : Int) < (l.length : Int) := by omega
      have HRl : Hid ((ints (rkL l)).length = l.length) := by show _ = _; rw [ints_len, hrl]
      clear hb0 hok HG hri hrl
      go_wp2_with fail
      refine (implRanks_c b d l hl hz _ (H.out.below HB1.out)).mono ?_
      rintro e w2 ⟨v, rfl, hans, hb⟩
      have HB2 : Hid (Below w.heap.size w w2) := below_then HB1.out hb
      obtain ⟨a2, c2, rfl⟩ := hans.form
      have hsq := hans.sq.2
      obtain ⟨p, rfl, _, hc⟩ := hsq.cell i _ HI.out
      rw [HRl.out]
      clear hans hb hsq
      have HR : Hid (rpI l s base = max 0 (base - m)) := by show _ = _; rw [HY.out]; split <;> omega
      go_wp2_with fail
      go_ret
      exact ⟨by rw [HR.out]; rfl, HB2.out⟩
end
end Go.Proofs.Ytpjfampfhofeaaa
