/- The reader of records: the head of a record is passed by. -/
import Derived.Test.YtpdmhpcejmankaaDoorJoB
import Derived.Test.YtpdmhpcejmankaaDoorPartsA
import Derived.Lib.SmallJoins
namespace Go.Proofs.YtpdmhpcejmankaaDoor
open Go.ChangeShapes Go.WideShapes Go.ChangeAt Go.RowKit

/-- What is left behind the first bytes, as a slice of the same memory. -/
def leftV (p : Option Addr) (n c j : Nat) : Value := .slice (if c = j then p else p.map (fun x => x.add j)) (n - j) (c - j)

theorem trim_left {w : World} {p : Option Addr} {l h : List UInt8} {c : Nat} (hp : h.isPrefixOf l = true) (hh : 1 ≤ h.length) (hl : ByA w p l) (hc : l.length ≤ c) :
    Lib.trimPrefixV p l.length c (numb l) (numb h) = leftV p l.length c h.length := by
  obtain ⟨r, rfl⟩ := List.isPrefixOf_iff_prefix.1 hp
  cases h with
  | nil => simp at hh
  | cons b t =>
    obtain ⟨q, o, e, _, _⟩ := hl.cell 0 b (by simp)
    subst e
    have hx : Lib.hasPrefix (Lib.bytesOf (numb (b :: t ++ r))) (Lib.bytesOf (numb (b :: t))) = true := by
      rw [numb_bytes, numb_bytes]; exact hp
    show Lib.bytesTrimPrefix q o _ c (numb (b :: t ++ r)) (numb (b :: t)) = _
    unfold Lib.bytesTrimPrefix
    rw [hx, if_pos rfl, numb_len]
    unfold Lib.sliceFrom leftV
    simp [Addr.add]

theorem conv_text (h : List UInt8) (w : World) : (convert 9 22 (.string ⟨h.toArray⟩)).run Tryd.prog w = .ok (.slice (some ⟨w.heap.size, 0, none⟩) h.length (grownCap w h.length 0 5)) (Lib.bytesWorld w 5 ⟨h.toArray⟩) := by
  have := Lib.run_convert_string_bytes (P := Tryd.prog) w 9 22 5 ⟨h.toArray⟩ Tryd.underlying9 Tryd.underlying22 Tryd.underlying5
  simpa [ByteArray.size] using this

set_option maxHeartbeats 1000000 in
theorem skip_yes (W : World) (R : Nat) (p : Option Addr) (c : Nat) (l h : List UInt8) (v : Value) (k : Int) (hrow : Row W R [.slice p l.length c, v, .int .i64 k]) (hl : ByA W p l) (hc : l.length ≤ c)
    (hp : h.isPrefixOf l = true) (hh : 1 ≤ h.length) :
    Calls Tryd.prog 69 #[.pointer (some ⟨R, 0, none⟩), .string ⟨h.toArray⟩] W fun e w' =>
      e = .returned (.tuple #[]) ∧ ∃ w1, Below W.heap.size W w1 ∧ w' = w1.setCell ⟨R, 0, none⟩ (leftV p l.length c h.length) := by
  have c0 := hrow.cell 0 _ rfl
  have hcv := conv_text h
  have HX := trim_left hp hh hl hc
  have Hrow : Hid (Row W R [.slice p l.length c, v, .int .i64 k]) := hrow
  have Hl : Hid (ByA W p l) := hl
  have Hp : Hid (h.isPrefixOf l = true) := hp
  clear hrow hl hp
  go_enter Tryd.func69, Tryd.ntmps69
  go_wp2_with fail
  generalize hV : Lib.bytesWorld W 5 ⟨h.toArray⟩ = V
  have HV : Hid (Below W.heap.size W V) := by subst hV; exact bw_below _ _ _
  have HB : Hid (ByA V (some ⟨W.heap.size, 0, none⟩) h) := by subst hV; exact bw_bytes W _ ⟨h.toArray⟩
  clear hV hcv
  generalize grownCap W h.length 0 5 = cc
  refine (Tryd.bytes_CutPrefix_all p _ l.length c h.length cc (numb l) (numb h) V (numb_len l) (numb_len h) hc (Hl.out.below HV.out).bytesIn HB.out.bytesIn).mono ?_
  rintro e w1 ⟨rfl, rfl⟩
  rw [HX, numb_bytes, numb_bytes, show Lib.hasPrefix l h = true from Hp.out]
  have HR : Hid (Row w1 R [.slice p l.length c, v, .int .i64 k]) := Hrow.out.below HV.out
  have d0 := HR.out.cell 0 _ rfl
  have f0 := HR.out.free 0
  obtain ⟨p', n', c', he⟩ : ∃ p' n' c', leftV p l.length c h.length = .slice p' n' c' := ⟨_, _, _, rfl⟩
  rw [he]
  have HE : Hid (_ = _) := he
  clear HX c0 he
  go_wp2_with fail
  refine (giveUp_yes _).mono ?_
  rintro e w2 ⟨rfl, rfl⟩
  go_wp2_with fail
  go_end0
  exact ⟨rfl, _, HV.out, by rw [HE.out]⟩

set_option maxHeartbeats 1000000 in
theorem skip_no (W : World) (R : Nat) (p : Option Addr) (c : Nat) (l h : List UInt8) (v : Value) (k : Int) (hrow : Row W R [.slice p l.length c, v, .int .i64 k]) (hl : ByA W p l) (hc : l.length ≤ c)
    (hp : h.isPrefixOf l = false) :
    Calls Tryd.prog 69 #[.pointer (some ⟨R, 0, none⟩), .string ⟨h.toArray⟩] W fun e w' => Gave e ∧ Below W.heap.size W w' := by
  have c0 := hrow.cell 0 _ rfl
  have hcv := conv_text h
  have Hl : Hid (ByA W p l) := hl
  have Hp : Hid (h.isPrefixOf l = false) := hp
  clear hrow hl hp
  go_enter Tryd.func69, Tryd.ntmps69
  go_wp2_with fail
  generalize hV : Lib.bytesWorld W 5 ⟨h.toArray⟩ = V
  have HV : Hid (Below W.heap.size W V) := by subst hV; exact bw_below _ _ _
  have HB : Hid (ByA V (some ⟨W.heap.size, 0, none⟩) h) := by subst hV; exact bw_bytes W _ ⟨h.toArray⟩
  clear hV hcv
  generalize grownCap W h.length 0 5 = cc
  refine (Tryd.bytes_CutPrefix_all p _ l.length c h.length cc (numb l) (numb h) V (numb_len l) (numb_len h) hc (Hl.out.below HV.out).bytesIn HB.out.bytesIn).mono ?_
  rintro e w1 ⟨rfl, rfl⟩
  rw [numb_bytes, numb_bytes, show Lib.hasPrefix l h = false from Hp.out]
  generalize Lib.trimPrefixV p l.length c (numb l) (numb h) = vv
  clear c0
  go_wp2_with fail
  refine (giveUp_no _).mono ?_
  rintro e w2 ⟨⟨pv, rfl⟩, rfl⟩
  exact ⟨rfl, ⟨_, rfl⟩, HV.out⟩
end Go.Proofs.YtpdmhpcejmankaaDoor
