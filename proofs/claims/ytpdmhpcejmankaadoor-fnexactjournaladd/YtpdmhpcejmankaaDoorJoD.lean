/- The reader of records: the text of a record. -/
import Derived.Test.YtpdmhpcejmankaaDoorJoC
import Derived.Shelf.Bytes.SlSmallAll
namespace Go.Proofs.YtpdmhpcejmankaaDoor
open Go.ChangeShapes Go.WideShapes Go.ChangeAt Go.RowKit

theorem cut_left (p : Option Addr) (n c i : Nat) : Lib.cutV p n c 1 (i : Int) = .tuple #[.slice p i c, leftV p n c (i + 1), .bool true] := by
  unfold Lib.cutV
  rw [if_pos (by omega), Int.toNat_natCast]
  rfl

theorem cut_none (p : Option Addr) (n c : Nat) : Lib.cutV p n c 1 (-1) = .tuple #[.slice p n c, .slice none 0 0, .bool false] := by
  unfold Lib.cutV
  rw [if_neg (by omega)]

theorem strOf_numb (l : List UInt8) : strOfNums (numb l) = ⟨l.toArray⟩ := by
  have h := numb_bytes l
  have h2 := Lib.strOfNums_toList (numb l)
  rw [h, ByteArray.toList_eq] at h2
  apply ByteArray.ext
  apply Array.ext'
  exact h2

/-- 'string(b)' of bytes that lie somewhere. -/
theorem conv_bytes {w : World} {p : Option Addr} {l : List UInt8} (h : ByA w p l) (c : Nat) : (convert 22 9 (.slice p l.length c)).run Tryd.prog w = .ok (.string ⟨l.toArray⟩) w := by
  rcases Nat.eq_zero_or_pos l.length with hn | hn
  · obtain rfl : l = [] := List.eq_nil_of_length_eq_zero hn
    exact run_convert_bytes_zero w 22 5 Tryd.underlying22 Tryd.underlying5 p c 9 Tryd.underlying9
  · obtain ⟨b, o, rfl, hc⟩ := h.bytesIn.at hn
    rw [run_convert_bytes_arg (P := Tryd.prog) w 22 5 Tryd.underlying22 Tryd.underlying5 b o l.length c (numb l) (numb_len l) hc 9 Tryd.underlying9, strOf_numb]

theorem nl_index (l : List UInt8) : Lib.index (Lib.bytesOf (numb l)) (Lib.bytesOf (numb [10])) = Lib.indexByte l 10 := by
  rw [numb_bytes, numb_bytes, Lib.index_one]

theorem lit_ten (W : World) : ByA (W.alloc (.cells #[.int .u8 10] 5 (1, 2))) (some ⟨W.heap.size, 0, none⟩) [10] :=
  ⟨fun i b hi => by
    match i, hi with
    | 0, hi =>
      simp at hi
      subst hi
      exact ⟨W.heap.size, 0, rfl, by go_size, by rw [World.cell?_alloc_mark]; rfl⟩⟩

/-- bytes.Cut of bytes at the first byte 10. -/
theorem cut_c (V : World) (p p2 : Option Addr) (c c2 : Nat) (l : List UInt8) (hl : ByA V p l) (h10 : ByA V p2 [10]) (hc : l.length ≤ c) (hpc : p = none → c = 0) (hm : MaxB V) (hbig : l.length ≤ 1048576) :
    Calls Tryd.prog 77 #[.slice p l.length c, .slice p2 1 c2] V fun e w' => e = .returned (Lib.cutV p l.length c 1 (Lib.indexByte l 10)) ∧ Below V.heap.size V w' := by
  obtain ⟨m, hm⟩ := hm
  refine (Tryd.bytes_Cut_all p p2 l.length c 1 c2 (numb l) (numb [10]) m V (numb_len l) rfl (numb_range l) (numb_range [10]) hl.bytesIn h10.bytesIn hpc hc (by omega) (by omega) hm).mono ?_
  rintro e w1 ⟨rfl, q, rfl⟩
  rw [nl_index]
  exact ⟨rfl, drewN_low _ _⟩

set_option maxHeartbeats 1000000 in
theorem text_yes (W : World) (R : Nat) (p : Option Addr) (c i : Nat) (l : List UInt8) (v : Value) (k : Int) (hrow : Row W R [.slice p l.length c, v, .int .i64 k]) (hl : ByA W p l) (hc : l.length ≤ c) (hpc : p = none → c = 0)
    (hm : MaxB W) (hi : Lib.indexByte l 10 = i) (hr : recB (l.take i) = true) (hbig : l.length ≤ 1048576) (hne : ∀ q o, p = some ⟨q, o, none⟩ → q ≠ R) :
    Calls Tryd.prog 70 #[.pointer (some ⟨R, 0, none⟩)] W fun e w' =>
      e = .returned (.string ⟨(l.take i).toArray⟩) ∧ ∃ w1, Below W.heap.size W w1 ∧ w' = w1.setCell ⟨R, 0, none⟩ (leftV p l.length c (i + 1)) := by
  have c0 := hrow.cell 0 _ rfl
  have kc := fun (w : World) (C : Array Value) (n c : Nat) => Lib.run_convert_bytes_const (P := Tryd.prog) w 22 5 C n c Tryd.underlying22 Tryd.underlying5
  have hil : i ≤ l.length := by have := (List.getElem?_eq_some_iff.1 (Lib.indexByte_some hi).1).1; omega
  have hlen : (l.take i).length = i := by rw [List.length_take]; omega
  have Hrow : Hid (Row W R [.slice p l.length c, v, .int .i64 k]) := hrow
  have Hl : Hid (ByA W p l) := hl
  have Hr : Hid (recB (l.take i) = true) := hr
  have Hm : Hid (MaxB W) := hm
  have Hc : Hid (∀ V p2 c2, ByA V p l → ByA V p2 [10] → MaxB V → Calls Tryd.prog 77 #[.slice p l.length c, .slice p2 1 c2] V fun e w' => e = .returned (.tuple #[.slice p i c, leftV p l.length c (i + 1), .bool true]) ∧ Below V.heap.size V w') := fun V p2 c2 h1 h2 h3 => by
    have := cut_c V p p2 c c2 l h1 h2 hc hpc h3 hbig
    rwa [hi, cut_left] at this
  have hsz : (⟨(l.take i).toArray⟩ : ByteArray).size ≤ maxLen := by simp [ByteArray.size, maxLen]; omega
  have Hk : Hid (∀ V, Calls Tryd.prog 40 #[.string ⟨(l.take i).toArray⟩] V fun e w' => e = .returned (.bool true) ∧ w' = V) := fun V => by
    have := implRecordOk_c ⟨(l.take i).toArray⟩ V hsz
    rwa [show (⟨(l.take i).toArray⟩ : ByteArray).data.toList = l.take i from rfl, hr] at this
  have Hv : Hid (∀ V, ByA V p l → (convert 22 9 (.slice p i c)).run Tryd.prog V = .ok (.string ⟨(l.take i).toArray⟩) V) := fun V h => by
    have := conv_bytes (h.upto i) c
    rwa [hlen] at this
  clear hrow hl hr hm hlen hsz hi hpc
  go_enter Tryd.func70, Tryd.ntmps70
  go_wp2_with fail
  generalize hV : W.alloc (.cells #[.int .u8 10] 5 (1, 2)) = V
  have HV : Hid (Below W.heap.size W V) := by subst hV; exact (Below.refl _ _).alloc (Nat.le_refl _) _
  have HT : Hid (ByA V (some ⟨W.heap.size, 0, none⟩) [10]) := by subst hV; exact lit_ten W
  clear hV kc
  refine (Hc.out V _ _ (Hl.out.below HV.out) HT.out (Hm.out.on HV.out)).mono ?_
  rintro e w1 ⟨rfl, hb⟩
  have HB : Hid (Below W.heap.size W w1) := below_then HV.out hb
  have HR : Hid (Row w1 R [.slice p l.length c, v, .int .i64 k]) := Hrow.out.below HB.out
  have hv := Hv.out w1 (Hl.out.below HB.out)
  have f0 := HR.out.free 0
  have d0 := HR.out.cell 0 _ rfl
  obtain ⟨p', n', c', he⟩ : ∃ p' n' c', leftV p l.length c (i + 1) = .slice p' n' c' := ⟨_, _, _, rfl⟩
  rw [he]
  have HE : Hid (_ = _) := he
  have Hv2 : Hid (∀ x, (convert 22 9 (.slice p i c)).run Tryd.prog (w1.setCell ⟨R, 0, none⟩ x) = .ok (.string ⟨(l.take i).toArray⟩) (w1.setCell ⟨R, 0, none⟩ x)) := fun x => Hv.out _ ((Hl.out.below HB.out).far R x hne)
  clear hb HV HT c0 he hne
  generalize hs : (⟨(l.take i).toArray⟩ : ByteArray) = s at hv Hv2 Hk
  have HS : Hid (_ = s) := hs
  clear hs
  go_wp2_with fail
  refine (Hk.out _).mono ?_
  rintro e w2 ⟨rfl, rfl⟩
  go_wp2_with fail
  refine (giveUp_yes _).mono ?_
  rintro e w3 ⟨rfl, rfl⟩
  have hv2 := Hv2.out (.slice p' n' c')
  go_wp2_with fail
  go_ret
  exact ⟨by rw [HS.out]; rfl, _, HB.out, by rw [HE.out]⟩

set_option maxHeartbeats 1000000 in
/-- No byte 10 is left. -/
theorem text_none (W : World) (R : Nat) (p : Option Addr) (c : Nat) (l : List UInt8) (v : Value) (k : Int) (hrow : Row W R [.slice p l.length c, v, .int .i64 k]) (hl : ByA W p l) (hc : l.length ≤ c) (hpc : p = none → c = 0)
    (hm : MaxB W) (hi : Lib.indexByte l 10 = -1) (hbig : l.length ≤ 1048576) :
    Calls Tryd.prog 70 #[.pointer (some ⟨R, 0, none⟩)] W fun e w' => Gave e ∧ Below W.heap.size W w' := by
  have c0 := hrow.cell 0 _ rfl
  have kc := fun (w : World) (C : Array Value) (n c : Nat) => Lib.run_convert_bytes_const (P := Tryd.prog) w 22 5 C n c Tryd.underlying22 Tryd.underlying5
  have Hl : Hid (ByA W p l) := hl
  have Hm : Hid (MaxB W) := hm
  have Hc : Hid (∀ V p2 c2, ByA V p l → ByA V p2 [10] → MaxB V → Calls Tryd.prog 77 #[.slice p l.length c, .slice p2 1 c2] V fun e w' => e = .returned (.tuple #[.slice p l.length c, .slice none 0 0, .bool false]) ∧ Below V.heap.size V w') := fun V p2 c2 h1 h2 h3 => by
    have := cut_c V p p2 c c2 l h1 h2 hc hpc h3 hbig
    rwa [hi, cut_none] at this
  clear hrow hl hm hi hpc
  go_enter Tryd.func70, Tryd.ntmps70
  go_wp2_with fail
  generalize hV : W.alloc (.cells #[.int .u8 10] 5 (1, 2)) = V
  have HV : Hid (Below W.heap.size W V) := by subst hV; exact (Below.refl _ _).alloc (Nat.le_refl _) _
  have HT : Hid (ByA V (some ⟨W.heap.size, 0, none⟩) [10]) := by subst hV; exact lit_ten W
  clear hV kc
  refine (Hc.out V _ _ (Hl.out.below HV.out) HT.out (Hm.out.on HV.out)).mono ?_
  rintro e w1 ⟨rfl, hb⟩
  have HB : Hid (Below W.heap.size W w1) := below_then HV.out hb
  clear hb HV HT c0
  go_wp2_with fail
  refine (giveUp_no _).mono ?_
  rintro e w2 ⟨⟨pv, rfl⟩, rfl⟩
  exact ⟨rfl, ⟨_, rfl⟩, HB.out⟩

set_option maxHeartbeats 1000000 in
/-- The text ahead of the first byte 10 is not right. -/
theorem text_wrong (W : World) (R : Nat) (p : Option Addr) (c i : Nat) (l : List UInt8) (v : Value) (k : Int) (hrow : Row W R [.slice p l.length c, v, .int .i64 k]) (hl : ByA W p l) (hc : l.length ≤ c) (hpc : p = none → c = 0)
    (hm : MaxB W) (hi : Lib.indexByte l 10 = i) (hr : recB (l.take i) = false) (hbig : l.length ≤ 1048576) :
    Calls Tryd.prog 70 #[.pointer (some ⟨R, 0, none⟩)] W fun e w' => Gave e ∧ Below W.heap.size W w' := by
  have c0 := hrow.cell 0 _ rfl
  have kc := fun (w : World) (C : Array Value) (n c : Nat) => Lib.run_convert_bytes_const (P := Tryd.prog) w 22 5 C n c Tryd.underlying22 Tryd.underlying5
  have hil : i ≤ l.length := by have := (List.getElem?_eq_some_iff.1 (Lib.indexByte_some hi).1).1; omega
  have hlen : (l.take i).length = i := by rw [List.length_take]; omega
  have Hl : Hid (ByA W p l) := hl
  have Hm : Hid (MaxB W) := hm
  have Hc : Hid (∀ V p2 c2, ByA V p l → ByA V p2 [10] → MaxB V → Calls Tryd.prog 77 #[.slice p l.length c, .slice p2 1 c2] V fun e w' => e = .returned (.tuple #[.slice p i c, leftV p l.length c (i + 1), .bool true]) ∧ Below V.heap.size V w') := fun V p2 c2 h1 h2 h3 => by
    have := cut_c V p p2 c c2 l h1 h2 hc hpc h3 hbig
    rwa [hi, cut_left] at this
  have hsz : (⟨(l.take i).toArray⟩ : ByteArray).size ≤ maxLen := by simp [ByteArray.size, maxLen]; omega
  have Hk : Hid (∀ V, Calls Tryd.prog 40 #[.string ⟨(l.take i).toArray⟩] V fun e w' => e = .returned (.bool false) ∧ w' = V) := fun V => by
    have := implRecordOk_c ⟨(l.take i).toArray⟩ V hsz
    rwa [show (⟨(l.take i).toArray⟩ : ByteArray).data.toList = l.take i from rfl, hr] at this
  have Hv : Hid (∀ V, ByA V p l → (convert 22 9 (.slice p i c)).run Tryd.prog V = .ok (.string ⟨(l.take i).toArray⟩) V) := fun V h => by
    have := conv_bytes (h.upto i) c
    rwa [hlen] at this
  clear hrow hl hr hm hlen hsz hi hpc
  go_enter Tryd.func70, Tryd.ntmps70
  go_wp2_with fail
  generalize hV : W.alloc (.cells #[.int .u8 10] 5 (1, 2)) = V
  have HV : Hid (Below W.heap.size W V) := by subst hV; exact (Below.refl _ _).alloc (Nat.le_refl _) _
  have HT : Hid (ByA V (some ⟨W.heap.size, 0, none⟩) [10]) := by subst hV; exact lit_ten W
  clear hV kc
  refine (Hc.out V _ _ (Hl.out.below HV.out) HT.out (Hm.out.on HV.out)).mono ?_
  rintro e w1 ⟨rfl, hb⟩
  have HB : Hid (Below W.heap.size W w1) := below_then HV.out hb
  have hv := Hv.out w1 (Hl.out.below HB.out)
  obtain ⟨p', n', c', he⟩ : ∃ p' n' c', leftV p l.length c (i + 1) = .slice p' n' c' := ⟨_, _, _, rfl⟩
  rw [he]
  clear hb HV HT c0 he
  generalize (⟨(l.take i).toArray⟩ : ByteArray) = s at hv Hk
  go_wp2_with fail
  refine (Hk.out _).mono ?_
  rintro e w2 ⟨rfl, rfl⟩
  go_wp2_with fail
  refine (giveUp_no _).mono ?_
  rintro e w3 ⟨⟨pv, rfl⟩, rfl⟩
  exact ⟨rfl, ⟨_, rfl⟩, HB.out⟩
end Go.Proofs.YtpdmhpcejmankaaDoor
