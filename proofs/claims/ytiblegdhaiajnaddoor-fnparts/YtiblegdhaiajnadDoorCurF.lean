/- A text and a byte, drawn. -/
import Derived.Test.YtiblegdhaiajnadDoorCurE
namespace Go.Proofs.YtiblegdhaiajnadDoor
open Go.ChangeShapes Go.WideShapes Go.ChangeAt Go.RowKit

theorem texts8 (k : Nat) (h : k < 8) : ∃ s : ByteArray, ([.string ⟨#[]⟩, .string ⟨#[97]⟩, .string ⟨#[97, 32, 98]⟩, .string ⟨#[32]⟩, .string ⟨#[32, 32]⟩, .string ⟨#[97, 32, 32, 98, 32]⟩, .string ⟨#[32, 97]⟩, .string ⟨#[97, 47, 98]⟩] : List Value)[k]? = some (.string s) ∧ s.size ≤ 8 := by
  match k, h with
  | 0, _ => exact ⟨_, rfl, by decide⟩
  | 1, _ => exact ⟨_, rfl, by decide⟩
  | 2, _ => exact ⟨_, rfl, by decide⟩
  | 3, _ => exact ⟨_, rfl, by decide⟩
  | 4, _ => exact ⟨_, rfl, by decide⟩
  | 5, _ => exact ⟨_, rfl, by decide⟩
  | 6, _ => exact ⟨_, rfl, by decide⟩
  | 7, _ => exact ⟨_, rfl, by decide⟩

theorem bytes3 (k : Nat) (h : k < 3) : ∃ b : UInt8, ([.int .u8 32, .int .u8 47, .int .u8 97] : List Value)[k]? = some (.int .u8 (b.toNat : Int)) := by
  match k, h with
  | 0, _ => exact ⟨32, rfl⟩
  | 1, _ => exact ⟨47, rfl⟩
  | 2, _ => exact ⟨97, rfl⟩

set_option maxHeartbeats 1000000 in
theorem drawParts_c (a : Option Addr) (n cap : Nat) (w : World) (h : CodeIs w a n) :
    Calls Tryd.prog 14 #[.slice a n cap] w fun e w' => ∃ (s : ByteArray) (b : UInt8), e = .returned (.tuple #[.string s, .int .u8 (b.toNat : Int)]) ∧ s.size ≤ 8 ∧ Below w.heap.size w w' := by
  have H : Hid (CodeIs w a n) := h
  clear h
  go_enter Tryd.func14, Tryd.ntmps14
  go_wp2_with fail
  refine (l01New_c a n cap _ H.out).mono ?_
  rintro e w1 ⟨g, rfl, hg1, hb1, hc1⟩
  have HB1 : Hid (Below w.heap.size w w1) := hb1
  have HC1 : Hid (Cur w1 g a n cap) := hc1
  clear hb1 hc1
  go_wp2_with fail
  have HL2 : Hid (Row (w1.alloc (.cells #[.string ⟨#[]⟩, .string ⟨#[97]⟩, .string ⟨#[97, 32, 98]⟩, .string ⟨#[32]⟩, .string ⟨#[32, 32]⟩, .string ⟨#[97, 32, 32, 98, 32]⟩, .string ⟨#[32, 97]⟩, .string ⟨#[97, 47, 98]⟩] 9)) w1.heap.size [.string ⟨#[]⟩, .string ⟨#[97]⟩, .string ⟨#[97, 32, 98]⟩, .string ⟨#[32]⟩, .string ⟨#[32, 32]⟩, .string ⟨#[97, 32, 32, 98, 32]⟩, .string ⟨#[32, 97]⟩, .string ⟨#[97, 47, 98]⟩]) := row_new w1 [.string ⟨#[]⟩, .string ⟨#[97]⟩, .string ⟨#[97, 32, 98]⟩, .string ⟨#[32]⟩, .string ⟨#[32, 32]⟩, .string ⟨#[97, 32, 32, 98, 32]⟩, .string ⟨#[32, 97]⟩, .string ⟨#[97, 47, 98]⟩] 9
  have HX2 : Hid (Below w1.heap.size w1 (w1.alloc (.cells #[.string ⟨#[]⟩, .string ⟨#[97]⟩, .string ⟨#[97, 32, 98]⟩, .string ⟨#[32]⟩, .string ⟨#[32, 32]⟩, .string ⟨#[97, 32, 32, 98, 32]⟩, .string ⟨#[32, 97]⟩, .string ⟨#[97, 47, 98]⟩] 9))) := (Below.refl _ _).alloc (Nat.le_refl _) _
  have hqg : g < w1.heap.size := HC1.out.lt
  generalize w1.alloc (.cells #[.string ⟨#[]⟩, .string ⟨#[97]⟩, .string ⟨#[97, 32, 98]⟩, .string ⟨#[32]⟩, .string ⟨#[32, 32]⟩, .string ⟨#[97, 32, 32, 98, 32]⟩, .string ⟨#[32, 97]⟩, .string ⟨#[97, 47, 98]⟩] 9) = w2 at HL2 HX2
  have HB2 : Hid (Below w.heap.size w w2) := below_then HB1.out HX2.out
  have HC2 : Hid (Cur w2 g a n cap) := HC1.out.below HX2.out
  generalize w1.heap.size = q at hqg HL2 HX2
  clear HX2 HB1 HC1
  refine (l01Below_c g a n cap 8 (by decide) (by decide) _ HC2.out).mono ?_
  rintro e w3 ⟨x, rfl, hx0, hx1, hg, hc⟩
  obtain ⟨k, rfl⟩ : ∃ k : Nat, x = k := ⟨x.toNat, by omega⟩
  have HL3 : Hid (Row w3 q [.string ⟨#[]⟩, .string ⟨#[97]⟩, .string ⟨#[97, 32, 98]⟩, .string ⟨#[32]⟩, .string ⟨#[32, 32]⟩, .string ⟨#[97, 32, 32, 98, 32]⟩, .string ⟨#[32, 97]⟩, .string ⟨#[97, 47, 98]⟩]) := HL2.out.far hg (by intro e; have := Option.some.inj e; omega)
  have HB3 : Hid (Below w.heap.size w w3) := below_grown HB2.out hg hg1
  have HC3 : Hid (Cur w3 g a n cap) := hc
  clear hg hc HL2 HB2 HC2
  obtain ⟨s, hs, hsz⟩ := texts8 k (by omega)
  have cs : w3.cell? ⟨q, k, none⟩ = some (.string s) := HL3.out.cell k _ hs
  clear hs
  go_wp2_with fail
  have hrg : g < w3.heap.size := HC3.out.lt
  have HD : Hid (∀ W : World, Below W.heap.size W W.drew) := fun W => ⟨rfl, rfl, rfl, Nat.le_refl _, fun _ _ => rfl⟩
  have HL4 : Hid (Row (w3.alloc (.cells #[.int .u8 32, .int .u8 47, .int .u8 97] 5)).drew w3.heap.size [.int .u8 32, .int .u8 47, .int .u8 97]) := (row_new w3 [.int .u8 32, .int .u8 47, .int .u8 97] 5).below (HD.out _)
  have HC4 : Hid (Cur (w3.alloc (.cells #[.int .u8 32, .int .u8 47, .int .u8 97] 5)).drew g a n cap) := (HC3.out.below ((Below.refl _ _).alloc (Nat.le_refl _) _)).below (HD.out _)
  have HB4 : Hid (Below w.heap.size w (w3.alloc (.cells #[.int .u8 32, .int .u8 47, .int .u8 97] 5)).drew) := below_then (behind_alloc HB3.out _) (HD.out _)
  have HC5 : Hid (Cur w3.drew g a n cap) := HC3.out.below (HD.out _)
  have HB5 : Hid (Below w.heap.size w w3.drew) := below_then HB3.out (HD.out _)
  clear cs HL3
  go_region_with ((go_at_call 30; first | (refine (l01Below_c g a n cap 3 (by decide) (by decide) w3.drew HC5.out).mono ?_; rintro e w4 ⟨y, rfl, hy0, hy1, hg, hc⟩; have HB6 : Hid (Below w.heap.size w w4) := below_grown HB5.out hg hg1; obtain ⟨k2, rfl⟩ : ∃ k2 : Nat, y = k2 := ⟨y.toNat, by omega⟩; obtain ⟨b, hb⟩ := bytes3 k2 (by omega); have cb := (row_new w4 [.int .u8 32, .int .u8 47, .int .u8 97] 5).cell k2 _ hb; clear hb hg hc) | (refine (l01Below_c g a n cap 3 (by decide) (by decide) (w3.alloc (.cells #[.int .u8 32, .int .u8 47, .int .u8 97] 5)).drew HC4.out).mono ?_; rintro e w4 ⟨y, rfl, hy0, hy1, hg, hc⟩; have HB6 : Hid (Below w.heap.size w w4) := below_grown HB4.out hg hg1; obtain ⟨k2, rfl⟩ : ∃ k2 : Nat, y = k2 := ⟨y.toNat, by omega⟩; obtain ⟨b, hb⟩ := bytes3 k2 (by omega); have cb : w4.cell? ⟨w3.heap.size, k2, none⟩ = some (.int .u8 (b.toNat : Int)) := (HL4.out.far hg (by intro e; have := Option.some.inj e; omega)).cell k2 _ hb; clear hb hg hc)))
  · go_wp2
    exact bodyPost_ret (v := .tuple #[.string s, .int .u8 (b.toNat : Int)]) (by simp [results, Tryd.results14, go_sem]) rfl ⟨s, b, rfl, hsz, HB6.out⟩
  · go_wp2
    exact bodyPost_ret (v := .tuple #[.string s, .int .u8 (b.toNat : Int)]) (by simp [results, Tryd.results14, go_sem]) rfl ⟨s, b, rfl, hsz, behind_alloc HB6.out _⟩
end Go.Proofs.YtiblegdhaiajnadDoor
