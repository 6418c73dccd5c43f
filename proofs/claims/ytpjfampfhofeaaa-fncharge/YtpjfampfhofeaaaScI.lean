/- Accounts sorted: the program's Ranks. -/
import Derived.Test.YtpjfampfhofeaaaScG
import Derived.Test.YtpjfampfhofeaaaScH
import Derived.Test.YtpjfampfhofeaaaShelfA
import Derived.Sort.OwnSortedInts
import Derived.Test.YtpjfampfhofeaaaScC
import Derived.Laws.StructEq
namespace Go.Proofs.Ytpjfampfhofeaaa
open Go.ChangeShapes Go.WideShapes Go.ChangeAt Go.RowKit Go.Sort Go.Shelf

theorem hpA {w : World} {g n : Nat} {os : Array Obj} {cur : Array Value} {e : TypeId} {fr : Nat × Nat} (d : Array Value) (hb : w.heap[g]? = some (.cells cur e fr)) :
    (grow (putRow id (Sort.ahead w n) g 0 d) os).heap[g]? = some (.cells (putCells id 0 d cur) e fr) := by
  have hg : g < w.heap.size := (Array.getElem?_eq_some_iff.1 hb).1
  rw [heap_grow_old _ _ (by simpa using hg)]
  simp [putRow, mapBlock, Sort.ahead, Array.getElem?_modify, hb, onCells]
theorem gpA {w : World} {g n : Nat} {os : Array Obj} (d : Array Value) : w.grownBy (grow (putRow id (Sort.ahead w n) g 0 d) os) (some g) := by
  refine ⟨rfl, rfl, rfl, by simp, fun k hk hne => ?_⟩
  rw [heap_grow_old _ _ (by simpa using hk)]
  have : g ≠ k := fun e => hne (by rw [e])
  simp [putRow, mapBlock, Sort.ahead, Array.getElem?_modify, this]
theorem tpA (cur : Array Value) (ts : List Value) (h : ts.length ≤ cur.size) : (putCells id 0 ts.toArray cur).toList.take ts.length = ts := by
  apply List.ext_getElem?
  intro j
  by_cases hj : j < ts.length
  · rw [List.getElem?_take_of_lt hj, Array.getElem?_toList]
    simp [putCells, hj, show j < cur.size by omega]
  · rw [List.getElem?_take_eq_none (by omega), List.getElem?_eq_none (by omega)]
/-- A right account. -/
abbrev RA : Type := { x : Ac // accB x = true }
def enR (x : RA) : List Value := x.1.cells
instance : Inhabited RA := ⟨⟨⟨⟨#[97]⟩, 1, 0⟩, by rfl⟩⟩
def unR (xs : List RA) : List Ac := xs.map (fun x => x.1)
def raL (l : List Ac) (h : AOk l) : List RA := l.attach.map (fun x => ⟨x.1, h.acc x.2⟩)
theorem unR_ra {l : List Ac} (h : AOk l) : unR (raL l h) = l := by
  unfold unR raL
  rw [List.map_map]
  exact List.attach_map_subtype_val l
theorem raL_len {l : List Ac} (h : AOk l) : (raL l h).length = l.length := by simp [raL]
theorem flatK_ra (d : Array RA) : flatK enR 3 d = (flatAc (unR d.toList)).toArray := by
  apply Array.ext'
  apply List.ext_getElem?
  intro t
  have hl : (unR d.toList).length = d.size := by simp [unR]
  by_cases ht : t < d.size * 3
  · have h1 := flatAc_get (unR d.toList) (t / 3) (t % 3) (by omega) (by omega)
    rw [show t / 3 * 3 + t % 3 = t by omega] at h1
    rw [List.toList_toArray, h1]
    have h2 : t / 3 < d.size := by omega
    have h3 : t % 3 < (enR (d[t / 3]'h2)).length := by unfold enR; rw [Ac.len]; omega
    have h4 : (unR d.toList)[t / 3]'(by omega) = (d[t / 3]'h2).1 := by simp [unR]
    rw [h4]
    show _ = (enR (d[t / 3]'h2))[t % 3]?
    simp [flatK, ht, h2, List.getElem?_eq_getElem h3]
  · rw [List.getElem?_eq_none (by simp [flatK]; omega), List.getElem?_eq_none (by simp [flatAc_len]; omega)]
theorem nt_ntrans {a b c : ByteArray} (h1 : ntL a b = false) (h2 : ntL b c = false) : ntL a c = false := by
  cases h3 : ntL a c
  · rfl
  · cases h4 : ntL b a
    · have e : a.toList = b.toList := bl_tot h1 h4
      unfold ntL at h2 h3
      rw [e, h2] at h3
      cases h3
    · have := nt_trans h4 h3
      rw [h2] at this
      cases this
theorem ah_no {x y : Ac} (h : ahB x y = false) : y.us * x.sh ≤ x.us * y.sh ∧ (x.us * y.sh = y.us * x.sh → ntL x.nm y.nm = false) := by
  simp only [ahB, Bool.or_eq_false_iff, decide_eq_false_iff_not, Bool.and_eq_false_iff, beq_eq_false_iff_ne] at h
  refine ⟨by omega, fun e => ?_⟩
  rcases h.2 with h2 | h2
  · exact absurd e h2
  · exact h2
theorem ah_ntrans {x y z : Ac} (hx : 1 ≤ x.sh) (hy : 1 ≤ y.sh) (hz : 1 ≤ z.sh) (h1 : ahB x y = false) (h2 : ahB y z = false) : ahB x z = false := by
  obtain ⟨l1, n1⟩ := ah_no h1
  obtain ⟨l2, n2⟩ := ah_no h2
  have l3 := cross_le (by omega : 0 < z.sh) (by omega : 0 < y.sh) (by omega : 0 < x.sh) l2 l1
  simp only [ahB, Bool.or_eq_false_iff, decide_eq_false_iff_not, Bool.and_eq_false_iff, beq_eq_false_iff_ne]
  refine ⟨by omega, ?_⟩
  by_cases e : x.us * z.sh = z.us * x.sh
  · right
    have r1 : x.us * y.sh ≤ y.us * x.sh := cross_le (by omega : 0 < x.sh) (by omega : 0 < z.sh) (by omega : 0 < y.sh) (by omega) l2
    have r2 : y.us * z.sh ≤ z.us * y.sh := cross_le (by omega : 0 < y.sh) (by omega : 0 < x.sh) (by omega : 0 < z.sh) l1 (by omega)
    exact nt_ntrans (n1 (by omega)) (n2 (by omega))
  · exact .inl e
def cfR2 (x y : RA) : Int := cfA x.1 y.1
theorem swo_ra : SWO (ltOf cfR2) where
  irrefl x := by show decide (cfA x.1 x.1 < 0) = _; rw [cfA_ah, ah_irr]
  trans x y z h1 h2 := by
    change decide (cfA x.1 y.1 < 0) = _ at h1
    change decide (cfA y.1 z.1 < 0) = _ at h2
    show decide (cfA x.1 z.1 < 0) = _
    rw [cfA_ah] at *
    exact ah_trans (acc_parts x.2).2.1 (acc_parts y.2).2.1 (acc_parts z.2).2.1 h1 h2
  ntrans x y z h1 h2 := by
    change decide (cfA x.1 y.1 < 0) = _ at h1
    change decide (cfA y.1 z.1 < 0) = _ at h2
    show decide (cfA x.1 z.1 < 0) = _
    rw [cfA_ah] at *
    exact ah_ntrans (acc_parts x.2).2.1 (acc_parts y.2).2.1 (acc_parts z.2).2.1 h1 h2
/-- Sorted: nobody is ahead of one that stands ahead of him. -/
def SoA (r : List Ac) : Prop := r.Pairwise (fun x y => ahB y x = false)
theorem soA_of {d : Array RA} (h : SortedIn (ltOf cfR2) 0 d.size d) : SoA (unR d.toList) := by
  refine List.pairwise_iff_getElem.2 fun i j hi hj hij => ?_
  have hi' : i < d.size := by simpa [unR] using hi
  have hj' : j < d.size := by simpa [unR] using hj
  have := h i j (Nat.zero_le _) hij hj'
  change decide (cfA _ _ < 0) = _ at this
  rw [cfA_ah] at this
  simpa [unR, hi', hj'] using this
theorem sortAc_c {w : World} {B : Nat} {v : Value} {l : List Ac} (hok : AOk l) (hB : B ≤ w.heap.size) (h : w.ownsRow B 30 3 v l.length (flatAc l)) :
    Calls Try.prog 62 #[v, .func (.func 41) #[] #[]] w fun e w' => e = .returned (.tuple #[]) ∧ ∃ r : List Ac, r.Perm l ∧ SoA r ∧ w'.ownsRow B 30 3 v l.length (flatAc r) ∧ Below B w w' := by
  have h12 := hok.1
  by_cases h0 : l.length = 0
  · have hx : l = [] := List.length_eq_zero_iff.1 h0
    subst hx
    obtain ⟨a, cap, rfl⟩ := owsForm h
    refine (AnyF.slices_SortFunc_none Try.sortA a cap _ w).mono ?_
    rintro e w' ⟨rfl, rfl⟩
    exact ⟨rfl, [], List.Perm.refl _, List.Pairwise.nil, h, Below.refl _ _⟩
  · obtain ⟨hlen, hv⟩ := h
    rcases hv with ⟨_, hz⟩ | ⟨g, cap, cur, rfl, hg, hb, h1, h2, h3, h4⟩
    · exact absurd hz h0
    · have hgl : g < w.heap.size := (Array.getElem?_eq_some_iff.1 hb).1
      obtain ⟨d, hd⟩ : ∃ d : Array RA, d = (raL l hok).toArray := ⟨_, rfl⟩
      have hds : d.size = l.length := by rw [hd]; simp [raL_len]
      have hdl : unR d.toList = l := by rw [hd]; simp [unR_ra]
      have hH : HoldsK enR 3 w g 0 d := by
        unfold HoldsK
        rw [flatK_ra, hdl]
        intro j hj
        have hj' : j < (flatAc l).length := by simpa using hj
        refine ⟨?_, by simp [World.frozen?, hb]⟩
        have hx : (cur.toList.take (l.length * 3))[j]? = (flatAc l)[j]? := by rw [h4]
        rw [List.getElem?_take_of_lt (by rw [flatAc_len] at hj'; omega)] at hx
        simp only [World.cell?, hb, Nat.zero_add]
        simp only [Option.isSome_none, Bool.false_eq_true, if_false]
        rw [← Array.getElem?_toList, hx]
        simp [hj']
      have hcmp : CmpLays Try.prog 41 #[] enR 3 cfR2 g 0 d.size w := fun _ _ _ _ x y => compareAc_c x.1 y.1 x.2 y.2 _
      have hs := AnyQ.slices_SortFunc Try.sortA 3 Try.isAgg30 Try.sizeOf30 enR (fun _ => rfl) (fun x u hu => by
        simp only [enR, Ac.cells, List.mem_cons, List.not_mem_nil, or_false] at hu
        rcases hu with rfl | rfl | rfl <;> rfl) cfR2 swo_ra 41 #[] g 0 cap d w (enters_of Try.func41 (by kernel_rfl) rfl) hcmp hH hgl (by omega)
      rw [hds] at hs
      refine hs.mono ?_
      rintro e w' ⟨rfl, d', n, os, ⟨hp1, _, hp3⟩, hso, rfl⟩
      have hsz : d'.size = l.length := by rw [hp1, hds]
      have hperm : (unR d'.toList).Perm l := by
        have e1 : d'.extract 0 l.length = d' := by rw [← hsz]; simp
        have e2 : d.extract 0 l.length = d := by rw [← hds]; simp
        rw [e1, e2] at hp3
        have := hp3.map (fun x : RA => x.1)
        rw [← hdl]
        exact this
      have hfl : (flatAc (unR d'.toList)).length = l.length * 3 := by rw [flatAc_len, hperm.length_eq]; omega
      refine ⟨rfl, unR d'.toList, hperm, soA_of (by rw [hsz]; exact hso), ?_⟩
      unfold sortWorldK putRowK
      rw [flatK_ra]
      refine ⟨⟨hfl, .inr ⟨g, cap, _, rfl, hg, hpA _ hb, h1, h2, by simp [putCells, h3], ?_⟩⟩, ?_⟩
      · rw [← hfl]
        exact tpA cur _ (by rw [hfl, h3]; exact Nat.mul_le_mul_right 3 h1)
      · exact (Below.refl B w).grown (gpA _) hB (fun k e => by cases e; exact hg)
set_option maxHeartbeats 1000000 in
theorem sortedAc_c (B : Nat) (a : Option Addr) (c : Nat) (l : List Ac) (hok : AOk l) (w : World) (hM : VaM a c l B w) :
    Calls Try.prog 39 #[.func (.func 63) #[] #[.pointer (some ⟨B, 0, none⟩)], .func (.func 41) #[] #[]] w fun e w' =>
      ∃ v, e = .returned v ∧ ∃ r : List Ac, r.Perm l ∧ SoA r ∧ w'.ownsRow w.heap.size 30 3 v l.length (flatAc r) ∧ Below w.heap.size w w' := by
  have HM : Hid (VaM a c l B w) := hM
  have h12 := hok.1
  clear hM
  go_enter Try.func39, Try.ntmps39
  go_wp2_with fail
  refine (collectAc_c B a c l (by omega) _ HM.out).mono ?_
  rintro e w1 ⟨v, rfl, ho, hb⟩
  have HO : Hid (w1.ownsRow w.heap.size 30 3 v l.length (flatAc l)) := ho
  have HB : Hid (Below w.heap.size w w1) := hb
  clear ho hb
  go_wp2_with fail
  refine (sortAc_c hok HB.out.size HO.out).mono ?_
  rintro e w2 ⟨rfl, r, hp, hs, ho, hb⟩
  have HO2 : Hid (w2.ownsRow w.heap.size 30 3 v l.length (flatAc r)) := ho
  have HB2 : Hid (Below w.heap.size w w2) := HB.out.trans hb
  have HP : Hid (r.Perm l) := hp
  have HS : Hid (SoA r) := hs
  clear ho hb hp hs
  go_wp2_with fail
  go_ret
  exact ⟨v, rfl, r, HP.out, HS.out, HO2.out, HB2.out⟩
end Go.Proofs.Ytpjfampfhofeaaa

namespace Go.Proofs.Ytpjfampfhofeaaa
open Go.ChangeShapes Go.WideShapes Go.ChangeAt Go.RowKit Go.Shelf Go.Lib

def eqA (x y : Ac) : Bool := x.nm.toList == y.nm.toList && (x.sh == y.sh && x.us == y.us)
theorem eqAt_ac : EqlAt Try.prog 30 (fun x : Ac => .agg x.cells.toArray) eqA := by
  refine ⟨fun x y w => ?_, GuardAt.agg _ (by kernel_rfl)⟩
  have u3 := Try.underlying3
  have a3 := Try.isAgg3
  have z3 := Try.sizeOf3
  have u9 := Try.underlying9
  have a9 := Try.isAgg9
  have z9 := Try.sizeOf9
  have hS : Try.prog.underlying 30 = some (.struct (Try.prog.fieldsOf 30)) := by kernel_rfl
  have hp : Try.prog.stoodInHeld 30 = false := by kernel_rfl
  simp only [Ac.cells]
  rw [run_eql_struct, show (10000 : Nat) = 9999 + 1 from rfl, run_equalIn_agg w 9999 30 _ _ hS hp]
  simp only [Program.fieldsOf, Try.underlying30]
  go_simp
  unfold eqA
  cases h1 : (x.nm.toList == y.nm.toList) <;> cases h2 : (x.sh == y.sh) <;> cases h3 : (x.us == y.us) <;> simp_all
theorem index_c (g c : Nat) (r : List Ac) (y : Ac) (hl : r.length ≤ 1048576) (w : World) (h : Row w g (flatAc r)) :
    Calls Try.prog 42 #[.slice (some ⟨g, 0, none⟩) r.length c, .agg #[.string y.nm, .int .i64 y.sh, .int .i64 y.us]] w fun e w' => e = .returned (.int .i64 (Lib.idxBy eqA r y)) ∧ Below w.heap.size w w' := by
  haveI : Inhabited Ac := ⟨ac0⟩
  have hcon := AnyQ.slices_Index Try.idxA 3 Try.isAgg30 Try.sizeOf30 Ac.cells (fun _ => rfl) eqA eqAt_ac g 0 r.length c r y w (Nat.le_refl _) (by omega) (fun j hj i v hi => by
    have hi3 : i < 3 := by have := (List.getElem?_eq_some_iff.1 hi).1; rwa [Ac.len] at this
    have h2 := flatAc_get r j i hj hi3
    rw [getElem!_pos r j hj] at hi
    rw [hi] at h2
    have h3 := h.cell (j * 3 + i) v h2
    rw [show 0 + j * 3 + i = j * 3 + i by omega]
    exact h3)
  rw [List.take_length] at hcon
  refine Calls.mono hcon ?_
  rintro e w' ⟨rfl, q, rfl⟩
  exact ⟨rfl, (low_alloc w _).trans ⟨rfl, rfl, rfl, Nat.le_refl _, fun _ _ => rfl⟩⟩
/-- The place of an account among them sorted is how many are ahead of him. -/
theorem idx_rank {l r : List Ac} (hok : AOk l) (hp : r.Perm l) (hs : SoA r) {y : Ac} (hy : y ∈ l) : Lib.idxBy eqA r y = (rkOf l y : Int) := by
  haveI : Inhabited Ac := ⟨ac0⟩
  have hd0 : l.Pairwise (fun x y => (x.nm.toList == y.nm.toList) = false) := List.pairwise_iff_getElem.2 fun i j hi hj hij => names_ne hok hi hj (by omega)
  have hd : r.Pairwise (fun x y => (x.nm.toList == y.nm.toList) = false) := (hp.pairwise_iff (fun {a b} t => by
    rw [beq_eq_false_iff_ne] at *
    exact fun e => t e.symm)).2 hd0
  have hlt : ∀ (i j : Nat) (hi : i < r.length) (hj : j < r.length), i < j → ahB r[i] r[j] = true := fun i j hi hj hij => by
    have h1 := List.pairwise_iff_getElem.1 hd i j hi hj hij
    have h2 := List.pairwise_iff_getElem.1 hs i j hi hj hij
    rcases ah_tot h1 with h3 | h3
    · exact h3
    · rw [h2] at h3; cases h3
  obtain ⟨k, hk, rfl⟩ := List.getElem_of_mem (hp.mem_iff.2 hy)
  have hc : rkOf l r[k] = k := by
    unfold rkOf
    rw [← hp.countP_eq]
    have hsp : r = r.take k ++ (r[k] :: r.drop (k + 1)) := by rw [← List.drop_eq_getElem_cons hk, List.take_append_drop]
    have h1 : (r.take k).countP (fun a => ahB a r[k]) = k := by
      rw [List.countP_eq_length.2 (fun a ha => by
        obtain ⟨i, hi, rfl⟩ := List.getElem_of_mem ha
        rw [List.length_take] at hi
        rw [List.getElem_take]
        exact hlt i k (by omega) hk (by omega)), List.length_take]
      omega
    have h2 : (r.drop (k + 1)).countP (fun a => ahB a r[k]) = 0 := List.countP_eq_zero.2 (fun a ha => by
      obtain ⟨i, hi, rfl⟩ := List.getElem_of_mem ha
      rw [List.length_drop] at hi
      rw [List.getElem_drop]
      have := List.pairwise_iff_getElem.1 hs k (k + 1 + i) hk (by omega) (by omega)
      rw [this]
      simp)
    have h3 : r.countP (fun a => ahB a r[k]) = (r.take k ++ (r[k] :: r.drop (k + 1))).countP (fun a => ahB a r[k]) := by rw [← hsp]
    rw [h3, List.countP_append, List.countP_cons, h1, h2, ah_irr]
    simp
  rw [hc]
  have hh := Lib.idxBy_hit eqA r r.length k r[k] hk (Nat.le_refl _) (by rw [getElem!_pos r k hk]; simp [eqA]) (fun j hj => by
    have hj' : j < r.length := by omega
    have h1 := List.pairwise_iff_getElem.1 hd j k hj' hk hj
    rw [getElem!_pos r j hj']
    unfold eqA
    rw [show (r[k].nm.toList == r[j].nm.toList) = false by
      rw [beq_eq_false_iff_ne] at *
      exact fun e => h1 e.symm]
    rfl)
  rwa [List.take_length] at hh
theorem infoRk : (Try.prog.info? 3).map (fun i => (i.zero, i.size, i.bytes)) = some (some (.int .i64 0), 1, 8) := by kernel_rfl
/-- 'make([]int, 0, n)'. -/
theorem make_rk (n : Nat) (hn : n ≤ 1048576) : ∃ Z : List Value, Z.length = n ∧ ∀ w : World, (Instr.makeSlice 25 (.int .i64 0) (.int .i64 (n : Int))).run Try.prog w = .ok (.slice (some ⟨w.heap.size, 0, none⟩) 0 n) (w.alloc (.cells Z.toArray 3)) := by
  obtain ⟨i0, hi, hz0, hz1, hz2⟩ := info_parts infoRk
  refine ⟨(madeCells (Value.int .i64 0).cells (n * i0.size)).toList, ?_, fun w => ?_⟩
  · rw [hz1]
    simp [madeCells, Value.cells]
  · have h := run_make (P := Try.prog) (w := w) 25 3 i0 (.int .i64 0) Try.underlying25 hi hz0 .i64 .i64 0 (n : Int) (by omega) (by omega) (by rw [hz2]; omega) (by omega)
    simpa using h
noncomputable section
set_option maxHeartbeats 4000000 in
theorem implRanks_cap_c (b : Option Addr) (d : Nat) (l : List Ac) (hl : l.length ≤ 1048576) (hz : ∀ x ∈ l, x.nm.size ≤ 1048576) (w : World) (h : Sq w b (flatAc l)) :
    Calls Try.prog 13 #[.slice b l.length d] w (RetRC w (rkL l)) := by
  have H : Hid (Sq w b (flatAc l)) := h
  clear h
  obtain ⟨i0, hi2, hz0, hz1, hz2⟩ := info_parts infoRk
  obtain ⟨Z, hZ, hmk⟩ := make_rk l.length hl
  go_enter Try.func13, Try.ntmps13
  go_wp2_with fail
  refine (implAccountsOk_c b d l hl hz _ H.out).mono ?_
  rintro e w1 ⟨k, rfl, hk, hb⟩
  have HB1 : Hid (Below w.heap.size w w1) := hb
  have HK : Hid (k = true ↔ AOk l) := hk
  clear hk hb
  cases k
  · have HN : Hid (rkL l = []) := rkL_no (fun t => by have := HK.out.2 t; cases this)
    go_wp2_with fail
    go_ret
    rw [HN.out]
    exact ⟨none, 0, rfl, Nat.le_refl _, ⟨_, _, rfl, .inl rfl⟩, HB1.out⟩
  · have HY : Hid (AOk l) := HK.out.1 rfl
    have HE : Hid (rkL l = List.map (fun b => (rkOf l b : Int)) l) := rkL_yes HY.out
    have h12 : l.length ≤ 12 := HY.out.1
    clear HK
    go_wp2_with fail
    refine (valuesAc_c b l.length d _).mono ?_
    rintro e w2 ⟨rfl, rfl⟩
    have HM : Hid (VaM b d l w1.heap.size (w1.alloc (.cells #[.slice b l.length d] 23))) := ⟨(row_fresh w1 [.slice b l.length d] 23).cell 0 _ rfl, H.out.below (behind_alloc HB1.out _)⟩
    have HB2 : Hid (Below w.heap.size w (w1.alloc (.cells #[.slice b l.length d] 23))) := behind_alloc HB1.out _
    generalize w1.alloc (.cells #[.slice b l.length d] 23) = w2 at HM HB2 ⊢
    go_wp2_with fail
    refine (sortedAc_c w1.heap.size b d l HY.out _ HM.out).mono ?_
    rintro e w3 ⟨v, rfl, r, hp, hs, ho, hb⟩
    have HB3 : Hid (Below w.heap.size w w3) := below_then HB2.out hb
    have HP : Hid (r.Perm l) := hp
    have HS : Hid (SoA r) := hs
    have HO3 : Hid (w3.ownsRow w.heap.size 30 3 v l.length (flatAc r)) := owsMono ho HB2.out.size
    clear hp hs ho hb HM
    obtain ⟨oa, oc, rfl⟩ := owsForm HO3.out
    go_wp2_with fail
    have HO4 : Hid ((w3.alloc (.cells Z.toArray 3)).ownsRow w.heap.size 3 1 (.slice (some ⟨w3.heap.size, 0, none⟩) 0 l.length) 0 []) := World.ownsRow_made w3 Z.toArray l.length HB3.out.size (by unfold maxLen; omega) (by simp [hZ])
    have HB4 : Hid (Below w.heap.size w (w3.alloc (.cells Z.toArray 3))) := behind_alloc HB3.out _
    have HR4 : Hid ((w3.alloc (.cells Z.toArray 3)).ownsRow w.heap.size 30 3 (.slice oa l.length oc) l.length (flatAc r)) := HO3.out.alloc _
    have HG4 : Hid (∀ k, (Value.slice oa l.length oc).ownBlock = some k → k ≠ w3.heap.size) := fun k hk => by have := (HO3.out.lt k hk).2; omega
    generalize w3.alloc (.cells Z.toArray 3) = w4 at HO4 HB4 HR4 ⊢
    generalize hg3 : w3.heap.size = G3 at HO4 HG4 ⊢
    clear hmk hZ HO3
    go_loopw [4, 18] (fun o i wr => ∃ (j g c : Nat) (acc : List Int), j ≤ l.length ∧ i = .int .i64 j ∧ o = .slice (some ⟨g, 0, none⟩) j c ∧ acc.length = j ∧ j ≤ c ∧ acc ++ List.map (fun b => (rkOf l b : Int)) (l.drop j) = rkL l ∧ wr.ownsRow w.heap.size 3 1 (.slice (some ⟨g, 0, none⟩) j c) j (ints acc) ∧ wr.ownsRow w.heap.size 30 3 (.slice oa l.length oc) l.length (flatAc r) ∧ (∀ k, (Value.slice oa l.length oc).ownBlock = some k → k ≠ g) ∧ Below w.heap.size w wr) (fun _ i _ => l.length - (intOf i).toNat)
    case atStart => exact ⟨0, G3, l.length, [], Nat.zero_le _, rfl, rfl, rfl, Nat.zero_le _, by rw [HE.out]; rfl, HO4.out, HR4.out, HG4.out, HB4.out⟩
    case round =>
      obtain ⟨j, g, c, acc, hj, rfl, rfl, hal, hjc, hac, ho, hr, hg, hb⟩ := hrel
      have HAl : Hid (acc.length = j) := hal
      have HAc : Hid (acc ++ List.map (fun b => (rkOf l b : Int)) (l.drop j) = rkL l) := hac
      have HO : Hid (wr.ownsRow w.heap.size 3 1 (.slice (some ⟨g, 0, none⟩) j c) j (ints acc)) := ho
      have HR : Hid (wr.ownsRow w.heap.size 30 3 (.slice oa l.length oc) l.length (flatAc r)) := hr
      have HG : Hid (∀ k, (Value.slice oa l.length oc).ownBlock = some k → k ≠ g) := hg
      have HB : Hid (Below w.heap.size w wr) := hb
      have HJ : Hid (j ≤ c) := hjc
      clear ho hr hg hb hal hac hjc HO4 HR4 HG4 HB4
      by_cases hlt : j < l.length
      · have hj0 : (0 : Int) ≤ (j : Int) := by omega
        have hj1 : (j : Int) < (l.length : Int) := by omega
        have HX : Hid (l[j]? = some l[j]) := List.getElem?_eq_getElem hlt
        have HT : Hid ((acc ++ [(rkOf l l[j] : Int)]) ++ List.map (fun b => (rkOf l b : Int)) (l.drop (j + 1)) = rkL l) := by
          show _ = _
          rw [← HAc.out, List.drop_eq_getElem_cons hlt, List.map_cons, List.append_assoc]
          rfl
        have HI : Hid (Lib.idxBy eqA r l[j] = (rkOf l l[j] : Int)) := idx_rank HY.out HP.out HS.out (List.getElem_mem hlt)
        obtain ⟨p, rfl⟩ := H.out.some_ofAc j hlt
        obtain ⟨og, rfl⟩ : ∃ og, oa = some ⟨og, 0, none⟩ := by
          rcases HR.out.2 with ⟨_, hz⟩ | ⟨g', cap, _, e, _⟩
          · omega
          · cases e; exact ⟨_, rfl⟩
        have hne : og ≠ g := HG.out og rfl
        generalize l[j] = y at HX HT HI
        have c0 := (H.out.below HB.out).account0 HX.out
        have c1 := (H.out.below HB.out).accountK HX.out 1 (by decide) _ rfl
        have c2 := (H.out.below HB.out).accountK HX.out 2 (by decide) _ rfl
        go_wp2_with fail
        have HQ : Hid (Row (wr.alloc (.cells #[.string y.nm, .int .i64 y.sh, .int .i64 y.us] 30)) wr.heap.size [.string y.nm, .int .i64 y.sh, .int .i64 y.us]) := row_fresh wr [.string y.nm, .int .i64 y.sh, .int .i64 y.us] 30
        have HB2 : Hid (Below w.heap.size w (wr.alloc (.cells #[.string y.nm, .int .i64 y.sh, .int .i64 y.us] 30))) := behind_alloc HB.out _
        have HO2 : Hid ((wr.alloc (.cells #[.string y.nm, .int .i64 y.sh, .int .i64 y.us] 30)).ownsRow w.heap.size 3 1 (.slice (some ⟨g, 0, none⟩) j c) j (ints acc)) := HO.out.alloc _
        have HR2 : Hid ((wr.alloc (.cells #[.string y.nm, .int .i64 y.sh, .int .i64 y.us] 30)).ownsRow w.heap.size 30 3 (.slice (some ⟨og, 0, none⟩) l.length oc) l.length (flatAc r)) := HR.out.alloc _
        clear c0 c1 c2 HB HO HR
        generalize wr.alloc (.cells #[.string y.nm, .int .i64 y.sh, .int .i64 y.us] 30) = U at HQ HB2 HO2 HR2 ⊢
        generalize wr.heap.size = Q at HQ ⊢
        have y0 := HQ.out.cell 0 _ rfl
        have y1 := HQ.out.cell 1 _ rfl
        have y2 := HQ.out.cell 2 _ rfl
        go_wp2_with fail
        have hix := index_c og oc r y (by rw [HP.out.length_eq]; omega) U (owsRow HR2.out).1
        rw [HP.out.length_eq, HI.out] at hix
        refine hix.mono ?_
        rintro e w6 ⟨rfl, hb⟩
        have HB6 : Hid (Below w.heap.size w w6) := below_then HB2.out hb
        have HO6 : Hid (w6.ownsRow w.heap.size 3 1 (.slice (some ⟨g, 0, none⟩) j c) j (ints acc)) := owsBelow HO2.out hb
        have HR6 : Hid (w6.ownsRow w.heap.size 30 3 (.slice (some ⟨og, 0, none⟩) l.length oc) l.length (flatAc r)) := owsBelow HR2.out hb
        clear hb hix HB2 HO2 HR2 HQ y0 y1 y2
        generalize (rkOf l y : Int) = m at HT ⊢
        have HN7 : Hid (Row (w6.alloc (.cells #[.int .i64 m] 3)) w6.heap.size [.int .i64 m]) := row_fresh w6 [.int .i64 m] 3
        have hs7 : w.heap.size ≤ (w6.alloc (.cells #[.int .i64 m] 3)).heap.size := (behind_alloc HB6.out _).size
        have hog : og < w6.heap.size := (HR6.out.lt og rfl).2
        go_wp2_with (at_builtin; refine wpList_append_own_at _ rfl _ _ 25 rfl w.heap.size 3 i0 (.int .i64 0) 1 8 Try.underlying25 hi2 hz0 hz1 hz2 rfl (by decide) (.slice (some ⟨g, 0, none⟩) j c) j (ints acc) rfl (HO6.out.alloc _) ⟨w6.heap.size, 0, none⟩ 1 1 [.int .i64 m] rfl rfl ?c1 ?c2 ?c3 ?c4 hs7 ?_)
        case c1 =>
          intro q v hv
          rw [WideShapes.add_plain, Nat.zero_add]
          exact HN7.out.cell q v hv
        case c2 => simp [Value.oneCell']
        case c3 => unfold maxLen; omega
        case c4 => omega
        · intro v' w7 hown hgrow _ hat
          obtain ⟨g', c', rfl, hc'⟩ : ∃ g' c', v' = .slice (some ⟨g', 0, none⟩) (j + 1) c' ∧ j + 1 ≤ c' := by
            rcases hown.2 with ⟨_, hz⟩ | ⟨g', cap, _, e, _, _, hcap, _⟩
            · omega
            · exact ⟨g', cap, e, hcap⟩
          have HO7 : Hid (w7.ownsRow w.heap.size 3 1 (.slice (some ⟨g', 0, none⟩) (j + 1) c') (j + 1) (ints (acc ++ [m]))) := by
            show World.ownsRow _ _ _ _ _ _ _
            have e : ints (acc ++ [m]) = ints acc ++ [.int .i64 m] := by simp [ints]
            rw [e]
            exact hown
          have HR7 : Hid (w7.ownsRow w.heap.size 30 3 (.slice (some ⟨og, 0, none⟩) l.length oc) l.length (flatAc r)) := (HR6.out.alloc _).kept hgrow (.inr (by simp [Value.ownBlock]; exact hne))
          have HG7 : Hid (∀ k, (Value.slice (some ⟨og, 0, none⟩) l.length oc).ownBlock = some k → k ≠ g') := fun k hk => by
            have hk2 : og = k := Option.some.inj hk
            rcases hat with h | h
            · have h2 : g' = g := Option.some.inj h
              omega
            · have h2 : g' = w6.heap.size + 1 := Option.some.inj h
              omega
          have HB7 : Hid (Below w.heap.size w w7) := (behind_alloc HB6.out _).grown hgrow hs7 (fun k hk => (HO6.out.lt k hk).1)
          clear hown hgrow hat HO6 HB6 HR6 hs7 HN7
          go_wp2_with fail
          go_roundw
          case rel => exact ⟨j + 1, g', c', acc ++ [m], by omega, by go_num, rfl, by rw [List.length_append, HAl.out]; rfl, hc', HT.out, HO7.out, HR7.out, HG7.out, HB7.out⟩
          case measure => simp [intOf]; omega
      · have hjl : j = l.length := by omega
        have e2 : acc = rkL l := by
          have e2 := HAc.out
          rw [List.drop_of_length_le (by omega), List.map_nil, List.append_nil] at e2
          exact e2
        have e3 : (rkL l).length = j := by rw [← e2, HAl.out]
        have HAn : Hid (Ans w.heap.size wr.heap.size wr (ints (rkL l)) (.slice (some ⟨g, 0, none⟩) (rkL l).length c)) := by
          show Ans _ _ _ _ _
          have h := Ans.of_owns HO.out
          rw [e2] at h
          rw [e3]
          exact h
        have HL : Hid ((rkL l).length = j) := e3
        clear hjl e2 e3
        go_wp2_with fail
        go_ret
        exact ⟨_, c, by rw [HL.out]; rfl, by rw [HL.out]; exact HJ.out, HAn.out, HB.out⟩
theorem implRanks_c (b : Option Addr) (d : Nat) (l : List Ac) (hl : l.length ≤ 1048576) (hz : ∀ x ∈ l, x.nm.size ≤ 1048576) (w : World) (h : Sq w b (flatAc l)) :
    Calls Try.prog 13 #[.slice b l.length d] w (RetR w (rkL l)) := (implRanks_cap_c b d l hl hz w h).mono fun _ _ t => t.ret
end
end Go.Proofs.Ytpjfampfhofeaaa
