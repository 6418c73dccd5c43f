/- Arguments that came in: bytes, a journal; and what the laws over them lean on. -/
import Derived.Test.YtpdmhpcejmankaaDoorJoI
import Derived.Test.YtpdmhpcejmankaaDoorLaidT
import Derived.ProofKit
import Derived.OpenShut
import Derived.LaidMore
import Derived.Stop.Joined
import Derived.Stop.LaidErr
import Derived.Carry
import Derived.ChangeSlices
import Derived.Lib.SmallJoins
namespace Go.Proofs.YtpdmhpcejmankaaDoor
open Go.ChangeShapes Go.WideShapes Go.ChangeAt Go.RowKit Go.Joins

theorem ownJ : ownKnob Tryd.prog.godebug = none := by kernel_rfl
theorem laidOutJ : laidOutB Tryd.prog = true := by kernel_rfl
theorem cellsByteJ : Tryd.prog.cellsOf 5 = 1 := by kernel_rfl

theorem byte_wf {x : Int} (h : (Lit.int .u8 x).wf = true) : 0 ≤ x ∧ x < 256 := by
  have h1 : IntKind.u8.min = 0 := rfl
  have h2 : IntKind.u8.max = 255 := rfl
  simp only [Lit.wf, Bool.and_eq_true, decide_eq_true_eq] at h
  omega

/-- Bytes that came in. -/
theorem bytes_opened {H : Type} {enc : TypeId × Value → H} {W : World} {fuel : Nat} {held : Bool} {v : Value} {x : DataW H × List MemPlace}
    (h : DataW.trod enc Tryd.prog W 0 (fun _ => true) held fuel 22 [v] = some x) : ∃ a l cap, v = .slice a (l : List UInt8).length cap ∧ l.length ≤ maxLen ∧ ByA W a l := by
  rcases open_ints Tryd.underlying22 Tryd.underlying5 cellsByteJ h with ⟨hcs, _⟩ | ⟨a, len, cap, zs, hcs, _, hl, hm, hz, _, hcell, hwz⟩
  · simp at hcs
    subst hcs
    exact ⟨none, [], 0, rfl, Nat.zero_le _, ByA.nil _ _⟩
  · simp at hcs
    subst hcs
    simp only [if_true] at hz
    have hlen : (Lib.bytesOf (zs.take len)).length = len := by rw [Lib.bytesOf_length]; simp; omega
    refine ⟨some a, Lib.bytesOf (zs.take len), cap, by rw [hlen], by omega, ⟨fun i b hu => ?_⟩⟩
    have hi : i < len := by
      have := (List.getElem?_eq_some_iff.1 hu).1
      omega
    have hc := hcell i (by omega)
    have hg : zs.getD i 0 = zs[i]'(by omega) := by simp [List.getD, List.getElem?_eq_getElem (show i < zs.length by omega)]
    rw [hg] at hc
    have hw := byte_wf (hwz (zs[i]'(by omega)) (List.getElem_mem _))
    have hb : (b.toNat : Int) = zs[i]'(by omega) := by
      have h2 := (List.getElem?_eq_some_iff.1 hu).2
      rw [← h2]
      simp only [Lib.bytesOf, List.getElem_map, List.getElem_take]
      simp
      omega
    have hlt := World.block_lt_of_cell? _ _ hc
    rw [block_add] at hlt
    obtain ⟨q, o, s⟩ := a
    obtain rfl : s = none := by simpa [Addr.add] using World.cell?_spot (hcell 0 (by omega))
    refine ⟨q, o, rfl, hlt, ?_⟩
    rw [hb, ← Go.WideShapes.add_plain]
    exact hc

theorem cellsJournal : Tryd.prog.cellsOf 42 = 3 := by kernel_rfl

set_option maxRecDepth 100000 in
/-- A journal that came in. -/
theorem journal_opened {H : Type} {enc : TypeId × Value → H} {W : World} {r : Reach} {b0 : Nat} {v : Value} {d : DataW H} {p : List MemPlace} (hv : Value.okWide Tryd.prog W r b0 42 v)
    (h : DataW.Trod enc Tryd.prog W 0 (fun _ => true) true 42 v d p) :
    ∃ a l cap s n, v = .agg #[.slice a (l : List UInt8).length cap, .int .i64 s, .int .i64 n] ∧ l.length ≤ maxLen ∧ ByA W a l := by
  obtain ⟨v0, v1, v2, y0, y1, y2, n, rfl, _, _, h0, h1, h2⟩ := open_agg3 Tryd.underlying42 (by kernel_rfl) cellsJournal hv h
  obtain ⟨a, l, cap, rfl, hl, hb⟩ := bytes_opened h0
  obtain ⟨s, e1, rfl, _⟩ := DataW.trod_int Tryd.underlying3 h1
  obtain ⟨m, e2, rfl, _⟩ := DataW.trod_int Tryd.underlying3 h2
  simp at e1 e2
  subst e1 e2
  exact ⟨a, l, cap, s, m, rfl, hl, hb⟩
end Go.Proofs.YtpdmhpcejmankaaDoor
