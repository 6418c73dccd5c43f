/- Sorted by the library; all of a list differ: the program's look. -/
import Derived.Test.YtmpjebkjopfejaaGreatMzVaA
import Derived.Test.YtmpjebkjopfejaaGreatMzRisA
import Derived.Test.YtmpjebkjopfejaaGreatShelf
import Derived.Sort.OwnSortedInts
namespace Go.Proofs.YtmpjebkjopfejaaGreat
open Go.ChangeShapes Go.WideShapes Go.ChangeAt Go.RowKit Go.Shelf Go.Sort

/-- A list sorted. -/
def srt (xs : List Int) : List Int := xs.mergeSort fun x y => decide (x ≤ y)
theorem srt_len (xs : List Int) : (srt xs).length = xs.length := List.length_mergeSort xs
theorem srt_perm (xs : List Int) : (srt xs).Perm xs := List.mergeSort_perm xs _
theorem srt_le (xs : List Int) : (srt xs).Pairwise (· ≤ ·) := by
  have h := List.pairwise_mergeSort (le := fun x y : Int => decide (x ≤ y)) (fun a b c h1 h2 => by simp at h1 h2 ⊢; omega) (fun a b => by simp; omega) xs
  exact h.imp fun h => by simpa using h
theorem srt_ris (xs : List Int) : Ris (srt xs) ↔ xs.Nodup := by
  constructor
  · intro h
    exact (srt_perm xs).nodup_iff.1 (h.pair.imp fun h e => by omega)
  · intro h
    have h2 := (srt_perm xs).nodup_iff.2 h
    refine Ris.of_pair ?_
    exact ((srt_le xs).and h2).imp fun ⟨h1, h2⟩ => by omega

/-- slices.Sort over a list of the call's own. -/
theorem sort_c {w : World} {B : Nat} {v : Value} {xs : List Int} (hn : xs.length ≤ 1048576) (hB : B ≤ w.heap.size) (h : w.ownsRow B 3 1 v xs.length (ints xs)) :
    Calls Tryz.prog 127 #[v] w fun e w' => e = .returned (.tuple #[]) ∧ w'.ownsRow B 3 1 v xs.length (ints (srt xs)) ∧ Below B w w' := by
  by_cases h0 : xs.length = 0
  · have hx : xs = [] := List.length_eq_zero_iff.1 h0
    subst hx
    obtain ⟨a, cap, rfl, _⟩ := sq_of_owns h
    refine (Tryz.slices_Sort_int_none a cap w).mono ?_
    rintro e w' ⟨rfl, rfl⟩
    exact ⟨rfl, by simpa [srt] using h, Below.refl _ _⟩
  · obtain ⟨hlen, hv⟩ := h
    rcases hv with ⟨_, hz⟩ | ⟨g, cap, cur, rfl, hg, hb, h1, h2, h3, h4⟩
    · exact absurd hz h0
    · have ht : cur.toList.take xs.length = xs.map (Value.int .i64) := by rw [Nat.mul_one] at h4; exact h4
      refine (Tryz.slices_Sort_int g 0 cap xs w (holds_of_blockI hb ht) (Array.getElem?_eq_some_iff.1 hb).1 (by omega)).mono ?_
      rintro e w' ⟨rfl, n, os, rfl⟩
      refine ⟨rfl, ownsRow_sortedI (srt_len xs) hg hb h1 h2 h3, ?_⟩
      exact (Below.refl B w).grown (grownBy_sortedI _) hB (fun k e => by cases e; exact hg)

set_option maxHeartbeats 1000000 in
theorem sorted_c (B : Nat) (a : Option Addr) (c : Nat) (xs : List Int) (hul : xs.length ≤ 1048576) (w : World) (hM : WayMem a c xs B w) :
    Calls Tryz.prog 113 #[.func (.func 128) #[] #[.pointer (some ⟨B, 0, none⟩)]] w fun e w' =>
      ∃ v, e = .returned v ∧ w'.ownsRow w.heap.size 3 1 v xs.length (ints (srt xs)) ∧ Below w.heap.size w w' := by
  have HM : Hid (WayMem a c xs B w) := hM
  clear hM
  go_enter Tryz.func113, Tryz.ntmps113
  go_wp2_with fail
  refine (collectVals_c B a c xs hul _ HM.out).mono ?_
  rintro e w1 ⟨v, rfl, ho, hb⟩
  have HO : Hid (w1.ownsRow w.heap.size 3 1 v xs.length (ints xs)) := ho
  have HB : Hid (Below w.heap.size w w1) := hb
  clear ho hb
  go_wp2_with fail
  refine (sort_c hul HB.out.size HO.out).mono ?_
  rintro e w2 ⟨rfl, ho, hb⟩
  have HO2 : Hid (w2.ownsRow w.heap.size 3 1 v xs.length (ints (srt xs))) := ho
  have HB2 : Hid (Below w.heap.size w w2) := HB.out.trans hb
  clear ho hb
  go_wp2_with fail
  go_ret
  exact ⟨v, rfl, HO2.out, HB2.out⟩

set_option maxHeartbeats 1000000 in
theorem allDiffer_c (a : Option Addr) (c : Nat) (xs : List Int) (hul : xs.length ≤ 1048576) (w : World) (h : Sq w a (ints xs)) :
    Calls Tryz.prog 87 #[.slice a xs.length c] w fun e w' => e = .returned (.bool (decide xs.Nodup)) ∧ Below w.heap.size w w' := by
  have H : Hid (Sq w a (ints xs)) := h
  clear h
  go_enter Tryz.func87, Tryz.ntmps87
  go_wp2_with fail
  refine (values_c a xs.length c _).mono ?_
  rintro e w1 ⟨rfl, rfl⟩
  have HM : Hid (WayMem a c xs w.heap.size (w.alloc (.cells #[.slice a xs.length c] 22))) := ⟨(row_fresh w [.slice a xs.length c] 22).cell 0 _ rfl, H.out.below (low_alloc _ _)⟩
  have HB : Hid (Below w.heap.size w (w.alloc (.cells #[.slice a xs.length c] 22))) := low_alloc _ _
  generalize w.alloc (.cells #[.slice a xs.length c] 22) = w1 at HM HB
  go_wp2_with fail
  refine (sorted_c _ a c xs hul _ HM.out).mono ?_
  rintro e w2 ⟨v, rfl, ho, hb⟩
  have HB2 : Hid (Below w.heap.size w w2) := below_then HB.out hb
  obtain ⟨g, cap, rfl, hs⟩ := sq_of_owns ho
  have HS : Hid (Sq w2 g (ints (srt xs))) := hs
  clear ho hb hs
  go_wp2_with fail
  have hr := rising_c g cap (srt xs) (by rw [srt_len]; omega) w2 HS.out
  rw [srt_len] at hr
  refine hr.mono ?_
  rintro e w3 ⟨b, rfl, hiff, hb⟩
  have HB3 : Hid (Below w.heap.size w w3) := below_then HB2.out hb
  have HE : Hid (b = decide xs.Nodup) := by
    show _ = _
    rw [srt_ris] at hiff
    cases b
    · symm; simp; intro hn; exact absurd (hiff.2 hn) (by simp)
    · symm; simp; exact hiff.1 rfl
  clear hb hr hiff
  go_wp2_with fail
  go_ret
  exact ⟨by rw [HE.out]; rfl, HB3.out⟩
end Go.Proofs.YtmpjebkjopfejaaGreat
