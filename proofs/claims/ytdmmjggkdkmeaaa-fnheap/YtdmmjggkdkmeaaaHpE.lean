/- A heap that gives its first: the specification's HeapPop. -/
import Derived.Test.YtdmmjggkdkmeaaaHpD
namespace Go.Proofs.Ytdmmjggkdkmeaaa
open Go.ChangeShapes Go.WideShapes Go.ChangeAt Go.RowKit

def CapD (v : Value) (n : Nat) : Prop := ∃ a c, v = .slice a n c ∧ n ≤ c
/-- What a heap tells that gives its first. -/
def POkp (l : List Du) : Prop := HOk l ∧ l ≠ []
def RetG (w : World) (p : Prop) (x : Du) (r : List Du) (e : Ending) (w' : World) : Prop :=
  ∃ k v, e = .returned (.tuple #[.agg #[.int .i64 (bif k then x else du0).t, .int .i64 (bif k then x else du0).n], v, .bool k]) ∧ (k = true ↔ p) ∧ AnsD w.heap.size w'.heap.size w' (bif k then r else []).length (flatD (bif k then r else [])) v ∧ CapD v (bif k then r else []).length ∧ Below w.heap.size w w'
theorem RetG.no {w w' : World} {p : Prop} {x : Du} {r : List Du} {e : Ending} (he : e = .returned (.tuple #[.agg #[.int .i64 0, .int .i64 0], .slice none 0 0, .bool false])) (h : ¬ p) (hb : Below w.heap.size w w') : RetG w p x r e w' :=
  ⟨false, _, he, by simp [h], AnsD.none _ _ _ _ _, ⟨_, _, rfl, Nat.le_refl _⟩, hb⟩
theorem RetG.yes {w w' : World} {p : Prop} {x : Du} {r : List Du} {e : Ending} {v : Value} (he : e = .returned (.tuple #[.agg #[.int .i64 x.t, .int .i64 x.n], v, .bool true])) (h : p) (ha : AnsD w.heap.size w'.heap.size w' r.length (flatD r) v) (hc : CapD v r.length) (hb : Below w.heap.size w w') : RetG w p x r e w' :=
  ⟨true, _, he, by simp [h], ha, hc, hb⟩
theorem flatD_drop (l : List Du) : flatD l = flatD l.dropLast ++ (flatD l).drop (2 * l.dropLast.length) := by
  have h : flatD l.dropLast = (flatD l).take (2 * l.dropLast.length) := by
    rcases List.eq_nil_or_concat l with rfl | ⟨r, x, rfl⟩
    · rfl
    · rw [List.concat_eq_append, List.dropLast_concat, flatD_add]
      have := flatD_len r
      rw [← this, List.take_left]
  rw [h, List.take_append_drop]
theorem Sq.front {w : World} {a : Option Addr} {xs ys : List Value} (h : Sq w a (xs ++ ys)) : Sq w a xs :=
  ⟨fun i u hu => h.cell i u (by rw [List.getElem?_append_left (List.getElem?_eq_some_iff.1 hu).1]; exact hu)⟩
theorem results_mix3 {P : Program} {fn : Func} {a a2 a3 : Tmp} {t : TypeId} (h : fn.results = #[.cell a t, .tmp a2, .tmp a3]) {tmps : Array Value} {b : Nat} (ht : tmps[a]?.getD undef = .pointer (some ⟨b, 0, none⟩)) {W : World} {v : Value} (hv : (loadVar t ⟨b, 0, none⟩).run P W = .ok v W) :
    (results fn tmps).run P W = .ok (.tuple #[v, tmps[a2]?.getD undef, tmps[a3]?.getD undef]) W := by
  unfold results
  rw [h]
  simp [asAddr, ht, hv]
/-- At the list of a plain region's operations. -/
theorem wpl_app_sq {P : Program} {w : World} {ops : Array Oper} {rest : List Oper} {o : Oper} {a : Act} {Q : Exit → Act → World → Prop} (hgd : o.guard = none) (k : Tmp) (hk : o.dst = some k) (s x : Operand) (t : TypeId)
    (ho : o.op = .call { callee := .builtin .append, args := #[s, x], argTypes := #[t, t] }) (base : Nat) (e : TypeId) (i : TypeInfo) (z : Value) (size bytes : Nat) (ht : P.underlying t = some (.slice e)) (hi : P.info? e = some i) (hz : i.zero = some z)
    (hsize : i.size = size) (hby : i.bytes = bytes) (hzs : z.cells.size = size) (hsz : 0 < size) (g n cap : Nat) (xs : List Value) (hs : a.eval s = .slice (some ⟨g, 0, none⟩) n cap) (hown : w.ownsRow base e size (.slice (some ⟨g, 0, none⟩) n cap) n xs)
    (p : Option Addr) (m c : Nat) (news : List Value) (hx : a.eval x = .slice p m c) (hl : news.length = m * size) (hr : Sq w p news) (h1 : ∀ u ∈ news, u.oneCell' = true) (h63 : n + m ≤ maxLen) (hbytes : (n + m) * bytes ≤ 140737488355328) (hbase : base ≤ w.heap.size)
    (h : ∀ g' cap' w', w'.ownsRow base e size (.slice (some ⟨g', 0, none⟩) (n + m) cap') (n + m) (xs ++ news) → w.grownBy w' (some g) → wpList P ops Q rest (a.put (some k) (.slice (some ⟨g', 0, none⟩) (n + m) cap')) w') :
    wpList P ops Q (o :: rest) a w := by
  refine wpList_plain hgd fun K hK => ?_
  rw [← hk] at h
  obtain ⟨g', cap', w', h1', h2, h3⟩ := run_append_sq (P := P) w base t o.type e i z size bytes ht hi hz hsize hby hzs hsz g n cap xs hown p m c news hl hr h1 h63 hbytes hbase
  unfold Oper.wp execOp
  simp only [ho, resolve, invoke, builtin, Sem.run_bind, Sem.run_pure, Result.andThen_ok, List.map_toArray, List.map_cons, List.map_nil, hs, hx, h1']
  exact hK _ _ (h g' cap' w' h2 h3)
theorem owns_row {w : World} {B n g cap : Nat} {e : TypeId} {xs : List Value} (h : w.ownsRow B e 2 (.slice (some ⟨g, 0, none⟩) n cap) n xs) : Row w g xs ∧ B ≤ g ∧ n ≤ cap := by
  obtain ⟨hlen, h⟩ := h
  rcases h with ⟨h, _⟩ | ⟨g2, cap2, cur, e, hB, hg, hnc, _, hsz, hx⟩
  · cases h
  · cases e
    have hlt : g < w.heap.size := by
      rcases Nat.lt_or_ge g w.heap.size with h' | h'
      · exact h'
      · rw [Array.getElem?_eq_none h'] at hg; cases hg
    refine ⟨⟨fun i u hu => ?_, fun i => ?_, hlt⟩, hB, hnc⟩
    · rw [← hx] at hu
      have hi : cur.toList[i]? = some u := by
        rw [List.getElem?_take] at hu
        split at hu
        · exact hu
        · cases hu
      simp only [World.cell?, hg]
      simpa using hi
    · simp [World.frozen?, hg]
set_option maxHeartbeats 4000000 in
set_option maxRecDepth 100000 in
theorem specHeapPop_c (b : Option Addr) (d : Nat) (l : List Du) (hl : l.length ≤ 1048576) (hd : l.length ≤ d) (w : World) (h : Sq w b (flatD l)) :
    Calls Try.prog 26 #[.slice b l.length d] w (RetG w (POkp l) (dg l 0) (dpop l)) := by
  have H : Hid (Sq w b (flatD l)) := h
  clear h
  go_enter Try.func26, Try.ntmps26
  go_wp2_with fail
  have HX : Hid (Row (w.alloc (.cells #[.int .i64 0, .int .i64 0] 30)) w.heap.size [.int .i64 0, .int .i64 0]) := row_fresh w [.int .i64 0, .int .i64 0] 30
  have HB : Hid (Below w.heap.size w (w.alloc (.cells #[.int .i64 0, .int .i64 0] 30))) := low_alloc _ _
  generalize w.alloc (.cells #[.int .i64 0, .int .i64 0] 30) = V at HX HB ⊢
  refine (specHeapOk_c b d l hl _ (H.out.below HB.out)).mono ?_
  rintro e w1 ⟨k1, rfl, hk, hb⟩
  replace HX : Hid (Row w1 w.heap.size [.int .i64 0, .int .i64 0]) := HX.out.below hb
  replace HB : Hid (Below w.heap.size w w1) := below_then HB.out hb
  have HK : Hid (k1 = true ↔ HOk l) := hk
  clear hb hk V
  by_cases hno : k1 = false ∨ l.length = 0
  · have HN : Hid (¬ POkp l) := fun t => by
      rcases hno with e | e
      · have := HK.out.2 t.1; rw [e] at this; cases this
      · exact t.2 (List.eq_nil_of_length_eq_zero e)
    clear HK
    rcases hno with rfl | h0
    · go_wp2_with (refine stay_store 30 ?_)
      refine ⟨?_⟩
      refine wpList_store_mid rfl 30 _ _ rfl w.heap.size 0 _ rfl rfl (HX.out.room 0 2 (by simp)) szDue (by simp [Value.oneCell']) ?_
      have HX2 : Hid (Row (w1.setCells w.heap.size 0 [.int .i64 0, .int .i64 0]) w.heap.size [.int .i64 0, .int .i64 0]) := HX.out.setCs [.int .i64 0, .int .i64 0] 0 (by simp)
      have HB2 : Hid (Below w.heap.size w (w1.setCells w.heap.size 0 [.int .i64 0, .int .i64 0])) := below_setCs (Nat.le_refl _) _ _ HB.out
      show wpList _ _ _ _ _ (w1.setCells w.heap.size 0 [.int .i64 0, .int .i64 0])
      generalize w1.setCells w.heap.size 0 [.int .i64 0, .int .i64 0] = w2 at HX2 HB2 ⊢
      go_wp2_with fail
      have hv := run_loadVar_mid (P := Try.prog) w2 w.heap.size 0 30 [.int .i64 0, .int .i64 0] _ HX2.out.all Try.underlying30 rfl szDue
      exact bodyPost_ret (results_mix3 Try.results26 rfl hv) rfl (RetG.no rfl HN.out HB2.out)
    · have h0i : ((l.length : Int) == 0) = true := by rw [h0]; rfl
      cases k1
      · go_wp2_with (refine stay_store 30 ?_)
        refine ⟨?_⟩
        refine wpList_store_mid rfl 30 _ _ rfl w.heap.size 0 _ rfl rfl (HX.out.room 0 2 (by simp)) szDue (by simp [Value.oneCell']) ?_
        have HX2 : Hid (Row (w1.setCells w.heap.size 0 [.int .i64 0, .int .i64 0]) w.heap.size [.int .i64 0, .int .i64 0]) := HX.out.setCs [.int .i64 0, .int .i64 0] 0 (by simp)
        have HB2 : Hid (Below w.heap.size w (w1.setCells w.heap.size 0 [.int .i64 0, .int .i64 0])) := below_setCs (Nat.le_refl _) _ _ HB.out
        show wpList _ _ _ _ _ (w1.setCells w.heap.size 0 [.int .i64 0, .int .i64 0])
        generalize w1.setCells w.heap.size 0 [.int .i64 0, .int .i64 0] = w2 at HX2 HB2 ⊢
        go_wp2_with fail
        have hv := run_loadVar_mid (P := Try.prog) w2 w.heap.size 0 30 [.int .i64 0, .int .i64 0] _ HX2.out.all Try.underlying30 rfl szDue
        exact bodyPost_ret (results_mix3 Try.results26 rfl hv) rfl (RetG.no rfl HN.out HB2.out)
      · go_wp2_with (refine stay_store 30 ?_)
        refine ⟨?_⟩
        refine wpList_store_mid rfl 30 _ _ rfl w.heap.size 0 _ rfl rfl (HX.out.room 0 2 (by simp)) szDue (by simp [Value.oneCell']) ?_
        have HX2 : Hid (Row (w1.setCells w.heap.size 0 [.int .i64 0, .int .i64 0]) w.heap.size [.int .i64 0, .int .i64 0]) := HX.out.setCs [.int .i64 0, .int .i64 0] 0 (by simp)
        have HB2 : Hid (Below w.heap.size w (w1.setCells w.heap.size 0 [.int .i64 0, .int .i64 0])) := below_setCs (Nat.le_refl _) _ _ HB.out
        show wpList _ _ _ _ _ (w1.setCells w.heap.size 0 [.int .i64 0, .int .i64 0])
        generalize w1.setCells w.heap.size 0 [.int .i64 0, .int .i64 0] = w2 at HX2 HB2 ⊢
        go_wp2_with fail
        have hv := run_loadVar_mid (P := Try.prog) w2 w.heap.size 0 30 [.int .i64 0, .int .i64 0] _ HX2.out.all Try.underlying30 rfl szDue
        exact bodyPost_ret (results_mix3 Try.results26 rfl hv) rfl (RetG.no rfl HN.out HB2.out)
  · have hk1 : k1 = true := by cases k1 <;> simp_all
    subst hk1
    have HY : Hid (HOk l) := HK.out.1 rfl
    have hl1 : 1 ≤ l.length := by omega
    obtain ⟨m, hm⟩ : ∃ m : Nat, l.length = m + 1 := ⟨l.length - 1, by omega⟩
    have h200 : m ≤ 199 := by have := HY.out.1; omega
    have HM : Hid (l.length = m + 1) := hm
    have HDl : Hid (l.dropLast.length = m) := by show _ = _; rw [List.length_dropLast]; omega
    have HP : Hid (POkp l) := ⟨HY.out, fun e => by rw [e] at hm; cases hm⟩
    have hd' : (m : Int) ≤ (d : Int) := by omega
    have hm0 : (0 : Int) ≤ (m : Int) := by omega
    have e1 : (m : Int) + 1 - 1 = (m : Int) := by omega
    rw [hm]
    clear hm hl1 hno HK HY hl
    obtain ⟨i0, hi, hz0, hz1, hz2⟩ := info_parts infoDue
    have HB2 : Hid (Below w.heap.size w (w1.alloc (.cells #[] 30))) := behind_alloc HB.out _
    have HX2 : Hid (Row (w1.alloc (.cells #[] 30)) w.heap.size [.int .i64 0, .int .i64 0]) := HX.out.below (low_alloc _ _)
    have HS2 : Hid (Sq (w1.alloc (.cells #[] 30)) b (flatD l.dropLast)) := by
      have h := (H.out.below HB2.out)
      rw [flatD_drop] at h
      exact h.front
    have HO2 : Hid ((w1.alloc (.cells #[] 30)).ownsRow w1.heap.size 30 2 (.slice (some ⟨w1.heap.size, 0, none⟩) 0 0) 0 []) := World.ownsRow_made w1 #[] 0 (Nat.le_refl _) (by decide) rfl
    have hw1 := HB.out.size
    have hs2 : w1.heap.size ≤ (w1.alloc (.cells #[] 30)).heap.size := by simp [go_sem]
    go_wp2_with (at_builtin; refine wpl_app_sq rfl _ rfl _ _ 23 rfl w1.heap.size 30 i0 (.agg #[.int .i64 0, .int .i64 0]) 2 16 Try.underlying23 hi hz0 hz1 hz2 rfl (by decide) w1.heap.size 0 0 [] rfl HO2.out b m d (flatD l.dropLast) rfl (by rw [flatD_len, HDl.out]; omega) HS2.out (flatD_one _) (by unfold maxLen; omega) (by omega) hs2 ?_)
    intro gk ck wk hown hgrow
    rw [Nat.zero_add, List.nil_append] at hown
    rw [Nat.zero_add]
    have HB3 : Hid (Below w.heap.size w wk) := HB2.out.grown hgrow (by have := HB2.out.size; omega) (fun q hq => by cases hq; omega)
    have HX3 : Hid (Row wk w.heap.size [.int .i64 0, .int .i64 0]) := HX2.out.far hgrow (fun e => by have := Option.some.inj e; have := HX.out.lt; omega)
    obtain ⟨hk, hG, hcap⟩ := owns_row hown
    have HO3 : Hid (Row wk gk (flatD l.dropLast)) := hk
    have hq0 := HX.out.lt
    have hne : w.heap.size ≠ gk := by omega
    have h0l : 0 < l.length := by rw [HM.out]; omega
    have hml : m < l.length := by rw [HM.out]; omega
    have HL0 : Hid (l[0]? = some (dg l 0)) := by show _ = _; rw [List.getElem?_eq_getElem h0l, dg_eq h0l]
    have HLm : Hid (l[m]? = some (dg l m)) := by show _ = _; rw [List.getElem?_eq_getElem hml, dg_eq hml]
    obtain ⟨p, rfl⟩ := H.out.some_ofD 0 h0l
    have HDP : Hid (dpop l = ddn (l.dropLast.set 0 (dg l m)) 0) := by show _ = _; unfold dpop; rw [HM.out]; rfl
    have HP0 : Hid (p.add (0 * 2) = p) := by show _ = _; rw [Nat.zero_mul]; unfold Addr.add; split <;> simp_all
    obtain ⟨f, hf⟩ : ∃ f, dg l 0 = f := ⟨_, rfl⟩
    have HF : Hid (dg l 0 = f) := hf
    rw [hf] at HL0
    clear hf
    generalize dg l m = x at HLm HDP
    have hG0 : w.heap.size ≤ gk := by omega
    clear hk hown hgrow HB2 HX2 HS2 HO2 HX HB hi hz0 hz1 hz2 hs2 h0l hml
    go_upto_if 27 with fail
    go_cut [] (fun wc => Row wc gk (flatD (l.dropLast.set 0 x)) ∧ Row wc w.heap.size [.int .i64 0, .int .i64 0] ∧ Below w.heap.size w wc)
    case first =>
      by_cases hm00 : m = 0
      · have hc0 : ¬ (0 : Int) < (m : Int) := by omega
        have HO4 : Hid (Row wk gk (flatD (l.dropLast.set 0 x))) := by
          have : l.dropLast = [] := List.eq_nil_of_length_eq_zero (by rw [HDl.out]; exact hm00)
          rw [this] at HO3 ⊢
          exact HO3.out
        clear hm00
        go_wp2_with fail
        go_meet
        case rel => exact ⟨HO4.out, HX3.out, HB3.out⟩
      · have hc0 : (0 : Int) < (m : Int) := by omega
        have hc1 : (m : Int) < (m : Int) + 1 := by omega
        have c0 := (H.out.below HB3.out).due0 HLm.out
        have c1 := (H.out.below HB3.out).dueK HLm.out 1 (by decide) _ rfl
        go_wp2_with (refine stay_store 30 ?_)
        refine ⟨?_⟩
        refine wpList_store_mid rfl 30 _ _ rfl gk 0 _ rfl rfl (HO3.out.room 0 2 (by rw [flatD_len, HDl.out]; omega)) szDue (by simp [Value.oneCell']) ?_
        have HO4 : Hid (Row (wk.setCells gk 0 [.int .i64 x.t, .int .i64 x.n]) gk (flatD (l.dropLast.set 0 x))) := by
          show Row _ _ _
          rw [← flatD_set x (show 0 < l.dropLast.length by rw [HDl.out]; omega)]
          exact HO3.out.setCs [.int .i64 x.t, .int .i64 x.n] 0 (by simp [flatD_len, HDl.out]; omega)
        have HX4 : Hid (Row (wk.setCells gk 0 [.int .i64 x.t, .int .i64 x.n]) w.heap.size [.int .i64 0, .int .i64 0]) := HX3.out.apartCs hne _ _
        have HB4 : Hid (Below w.heap.size w (wk.setCells gk 0 [.int .i64 x.t, .int .i64 x.n])) := below_setCs hG0 _ _ HB3.out
        show wpList _ _ _ _ _ (wk.setCells gk 0 [.int .i64 x.t, .int .i64 x.n])
        generalize wk.setCells gk 0 [.int .i64 x.t, .int .i64 x.n] = w4 at HO4 HX4 HB4 ⊢
        clear c0 c1
        go_wp2_with fail
        go_meet
        case rel => exact ⟨HO4.out, HX4.out, HB4.out⟩
    case rest =>
    obtain ⟨ho, hx, hb⟩ := hcut
    obtain ⟨ys, hys⟩ : ∃ ys, ys = l.dropLast.set 0 x := ⟨_, rfl⟩
    have HYl : Hid (ys.length = m) := by show _ = _; rw [hys, List.length_set]; exact HDl.out
    rw [← hys] at ho HDP
    have HO : Hid (Row wc gk (flatD ys)) := ho
    have HX : Hid (Row wc w.heap.size [.int .i64 0, .int .i64 0]) := hx
    have HB : Hid (Below w.heap.size w wc) := hb
    have HDN : Hid (ddn ys 0 = dpop l) := HDP.out.symm
    clear ho hx hb hys HDP HLm HO3 HX3 HB3 HDl x
    have hd0 := l10Down_c (some ⟨gk, 0, none⟩) ck ys (by have := HYl.out; omega) 0 (by decide) wc (Sq.of_row HO.out)
    rw [HYl.out] at hd0
    have HD0 : Hid (Calls Try.prog 43 #[.slice (some ⟨gk, 0, none⟩) m ck, .int .i64 0] wc fun e w' => e = .returned (.int .i64 (dwn ys 0)) ∧ Below wc.heap.size wc w') := hd0
    clear hd0
    go_wp2_with fail
    refine HD0.out.mono ?_
    rintro e w5 ⟨rfl, hb⟩
    have HO5 : Hid (Row w5 gk (flatD ys)) := HO.out.below hb
    have HX5 : Hid (Row w5 w.heap.size [.int .i64 0, .int .i64 0]) := HX.out.below hb
    have HB5 : Hid (Below w.heap.size w w5) := below_then HB.out hb
    clear hb HO HX HB HD0
    go_wp2_with fail
    go_loopw [6, 7] (fun i k wr => ∃ (j : Nat) (zs : List Du), zs.length = m ∧ j ≤ m ∧ i = .int .i64 j ∧ k = .int .i64 (dwn zs j) ∧ ddn zs j = dpop l ∧ Row wr gk (flatD zs) ∧ Row wr w.heap.size [.int .i64 0, .int .i64 0] ∧ Below w.heap.size w wr) (fun i _ _ => m - (intOf i).toNat)
    case atStart => exact ⟨0, ys, HYl.out, Nat.zero_le _, rfl, rfl, HDN.out, HO5.out, HX5.out, HB5.out⟩
    case round =>
      obtain ⟨j, zs, hzl, hj, rfl, rfl, hdn, ho, hx, hb⟩ := hrel
      have HZl : Hid (zs.length = m) := hzl
      have HDn : Hid (ddn zs j = dpop l) := hdn
      have HO : Hid (Row wr gk (flatD zs)) := ho
      have HX : Hid (Row wr w.heap.size [.int .i64 0, .int .i64 0]) := hx
      have HB : Hid (Below w.heap.size w wr) := hb
      clear hzl hdn ho hx hb HO5 HX5 HB5 HYl HDN
      have hsome := beh_some wr
      by_cases hc : dch zs j < zs.length
      · obtain ⟨c, hcc⟩ : ∃ c, dch zs j = c := ⟨_, rfl⟩
        have hdw : dwn zs j = (c : Int) := by unfold dwn; rw [if_pos hc, hcc]
        rw [hdw]
        have hcm : c < m := by rw [← hcc, ← HZl.out]; exact hc
        have hjc : j < c := by rw [← hcc]; exact dch_gt hc
        have HCC : Hid (dch zs j = c) := hcc
        have hg0 : decide ((0 : Int) ≤ (c : Int)) = true := by simp
        have hc0 : (0 : Int) ≤ (c : Int) := by omega
        have hc1 : (c : Int) < (m : Int) := by omega
        have hj0 : (0 : Int) ≤ (j : Int) := by omega
        have hj1 : (j : Int) < (m : Int) := by omega
        have HK1 : Hid (c < zs.length) := by show _ < _; rw [HZl.out]; exact hcm
        have HM1 : Hid (j < zs.length) := by show _ < _; rw [HZl.out]; omega
        obtain ⟨z, hz⟩ : ∃ z, dg zs c = z := ⟨_, rfl⟩
        obtain ⟨y, hy⟩ : ∃ y, dg zs j = y := ⟨_, rfl⟩
        have HZ : Hid (dg zs c = z) := hz
        have HYm : Hid (dg zs j = y) := hy
        have e2 : Hid (∀ r u, z.cells[r]? = some u → r < 2 → (flatD zs)[c * 2 + r]? = some u) := fun r u hu hr => by
          rw [flatD_get zs c r HK1.out hr, ← dg_eq HK1.out, hz]; exact hu
        have e3 : Hid (∀ r u, y.cells[r]? = some u → r < 2 → (flatD zs)[j * 2 + r]? = some u) := fun r u hu hr => by
          rw [flatD_get zs j r HM1.out hr, ← dg_eq HM1.out, hy]; exact hu
        have z0 := Beh.row HO.out (c * 2) _ (e2.out 0 _ rfl (by decide))
        have z1 := Beh.row HO.out (c * 2 + 1) _ (e2.out 1 _ rfl (by decide))
        have y0 := Beh.row HO.out (j * 2) _ (e3.out 0 _ rfl (by decide))
        have y1 := Beh.row HO.out (j * 2 + 1) _ (e3.out 1 _ rfl (by decide))
        have HDf : Hid (∀ W : World, Calls Try.prog 16 #[.agg #[.int .i64 z.t, .int .i64 z.n], .agg #[.int .i64 y.t, .int .i64 y.n]] W fun e w' => e = .returned (.bool (duL z y)) ∧ Below W.heap.size W w') := fun W => specDueFirst_c z y W
        clear hdw hcc hz hy
        cases hq : duL z y
        · have HE : Hid (dpop l = zs) := by
            show _ = _
            rw [← HDn.out, ddn, dif_neg (fun t => by have := t.2; rw [HCC.out, HZ.out, HYm.out, hq] at this; cases this)]
          rw [hq] at HDf
          clear hq HDn hc
          go_wp2_with fail
          refine wp_region_beh (by kernel_rfl) (by kernel_rfl) ?_
          repeat (go_big_quiet_step (first | (go_at_call 16; exact calls_beh (HDf.out _))))
          refine wpQuiet_nil ?_
          rintro ⟨w6, hb6⟩
          have HO6 : Hid (Row w6 gk (flatD zs)) := HO.out.below hb6
          have HX6 : Hid (Row w6 w.heap.size [.int .i64 0, .int .i64 0]) := HX.out.below hb6
          have HB6 : Hid (Below w.heap.size w w6) := below_then HB.out hb6
          have c0 := (H.out.below HB6.out).due0 HL0.out
          have c1 := (H.out.below HB6.out).dueK HL0.out 1 (by decide) _ rfl
          rw [HP0.out] at c0 c1
          go_wp2_with (refine stay_store 30 ?_)
          refine ⟨?_⟩
          refine wpList_store_mid rfl 30 _ _ rfl w.heap.size 0 _ rfl rfl (HX6.out.room 0 2 (by simp)) szDue (by simp [Value.oneCell']) ?_
          have HX7 : Hid (Row (w6.setCells w.heap.size 0 [.int .i64 f.t, .int .i64 f.n]) w.heap.size [.int .i64 f.t, .int .i64 f.n]) := HX6.out.setCs [.int .i64 f.t, .int .i64 f.n] 0 (by simp)
          have HB7 : Hid (Below w.heap.size w (w6.setCells w.heap.size 0 [.int .i64 f.t, .int .i64 f.n])) := below_setCs (Nat.le_refl _) _ _ HB6.out
          have HO7 : Hid (Row (w6.setCells w.heap.size 0 [.int .i64 f.t, .int .i64 f.n]) gk (flatD zs)) := HO6.out.apartCs (Ne.symm hne) _ _
          show wpList _ _ _ _ _ (w6.setCells w.heap.size 0 [.int .i64 f.t, .int .i64 f.n])
          generalize w6.setCells w.heap.size 0 [.int .i64 f.t, .int .i64 f.n] = w7 at HX7 HB7 HO7 ⊢
          clear c0 c1
          go_wp2_with fail
          have hv := run_loadVar_mid (P := Try.prog) w7 w.heap.size 0 30 [.int .i64 f.t, .int .i64 f.n] _ HX7.out.all Try.underlying30 rfl szDue
          have HA : AnsD w.heap.size w7.heap.size w7 (dpop l).length (flatD (dpop l)) (.slice (some ⟨gk, 0, none⟩) m ck) := by
            rw [HE.out, HZl.out]
            exact AnsD.of_row (by rw [flatD_len, HZl.out]) HO7.out hG0 HO7.out.lt
          have HCp : CapD (.slice (some ⟨gk, 0, none⟩) m ck) (dpop l).length := by rw [HE.out, HZl.out]; exact ⟨_, _, rfl, hcap⟩
          exact bodyPost_ret (results_mix3 Try.results26 rfl hv) rfl (by rw [HF.out]; exact RetG.yes rfl HP.out HA HCp HB7.out)
        · have HE : Hid (ddn (dsw zs j c) c = dpop l) := by
            show _ = _
            rw [← HDn.out, ddn.eq_1 zs, dif_pos ⟨hc, by rw [HCC.out, HZ.out, HYm.out]; exact hq⟩, HCC.out]
          rw [hq] at HDf
          clear hq HDn hc
          go_wp2_with fail
          refine wp_region_beh (by kernel_rfl) (by kernel_rfl) ?_
          repeat (go_big_quiet_step (first | (go_at_call 16; exact calls_beh (HDf.out _))))
          refine wpQuiet_nil ?_
          rintro ⟨w5, hb5⟩
          have HO5 : Hid (Row w5 gk (flatD zs)) := HO.out.below hb5
          have HX5 : Hid (Row w5 w.heap.size [.int .i64 0, .int .i64 0]) := HX.out.below hb5
          have HB5 : Hid (Below w.heap.size w w5) := below_then HB.out hb5
          clear z0 z1 y0 y1 hsome HDf HO HX HB
          have y0 := HO5.out.cell (j * 2) _ (e3.out 0 _ rfl (by decide))
          have y1 := HO5.out.cell (j * 2 + 1) _ (e3.out 1 _ rfl (by decide))
          go_wp2_with (refine stay_store 30 ?_)
          refine ⟨?_⟩
          have HR6 : Hid (Row (w5.alloc (.cells #[.int .i64 0, .int .i64 0] 30)) w5.heap.size [.int .i64 0, .int .i64 0]) := row_fresh w5 [.int .i64 0, .int .i64 0] 30
          have HO6 : Hid (Row (w5.alloc (.cells #[.int .i64 0, .int .i64 0] 30)) gk (flatD zs)) := HO5.out.below (low_alloc _ _)
          have HX6 : Hid (Row (w5.alloc (.cells #[.int .i64 0, .int .i64 0] 30)) w.heap.size [.int .i64 0, .int .i64 0]) := HX5.out.below (low_alloc _ _)
          have hG6 : gk ≠ w5.heap.size := Nat.ne_of_lt HO5.out.lt
          have hX6 : w.heap.size ≠ w5.heap.size := Nat.ne_of_lt HX5.out.lt
          have hs6 : w.heap.size ≤ w5.heap.size := HB5.out.size
          have HB6 : Hid (Below w.heap.size w (w5.alloc (.cells #[.int .i64 0, .int .i64 0] 30))) := behind_alloc HB5.out _
          clear y0 y1
          generalize w5.alloc (.cells #[.int .i64 0, .int .i64 0] 30) = w6 at HR6 HO6 HB6 HX6 ⊢
          generalize w5.heap.size = q at HR6 hG6 hs6 hX6 ⊢
          refine wpList_store_mid rfl 30 _ _ rfl q 0 _ rfl rfl (HR6.out.room 0 2 (by simp)) szDue (by simp [Value.oneCell']) ?_
          have HR7 : Hid (Row (w6.setCells q 0 [.int .i64 y.t, .int .i64 y.n]) q [.int .i64 y.t, .int .i64 y.n]) := HR6.out.setCs [.int .i64 y.t, .int .i64 y.n] 0 (by simp)
          have HO7 : Hid (Row (w6.setCells q 0 [.int .i64 y.t, .int .i64 y.n]) gk (flatD zs)) := HO6.out.apartCs hG6 _ _
          have HX7 : Hid (Row (w6.setCells q 0 [.int .i64 y.t, .int .i64 y.n]) w.heap.size [.int .i64 0, .int .i64 0]) := HX6.out.apartCs hX6 _ _
          have HB7 : Hid (Below w.heap.size w (w6.setCells q 0 [.int .i64 y.t, .int .i64 y.n])) := below_setCs hs6 _ _ HB6.out
          show wpList _ _ _ _ _ (w6.setCells q 0 [.int .i64 y.t, .int .i64 y.n])
          generalize w6.setCells q 0 [.int .i64 y.t, .int .i64 y.n] = w7 at HR7 HO7 HB7 HX7 ⊢
          clear HR6 HO6 HB6 HB5 HO5 HX5 HX6
          have z0 := HO7.out.cell (c * 2) _ (e2.out 0 _ rfl (by decide))
          have z1 := HO7.out.cell (c * 2 + 1) _ (e2.out 1 _ rfl (by decide))
          go_wp2_with (refine stay_store 30 ?_)
          refine ⟨?_⟩
          refine wpList_store_mid rfl 30 _ _ rfl gk (j * 2) _ rfl rfl (HO7.out.room (j * 2) 2 (by rw [flatD_len, HZl.out]; omega)) szDue (by simp [Value.oneCell']) ?_
          have HO8 : Hid (Row (w7.setCells gk (j * 2) [.int .i64 z.t, .int .i64 z.n]) gk (flatD (zs.set j z))) := by
            show Row _ _ _
            rw [← flatD_set z HM1.out]
            exact HO7.out.setCs [.int .i64 z.t, .int .i64 z.n] (j * 2) (by simp [flatD_len, HZl.out]; omega)
          have HR8 : Hid (Row (w7.setCells gk (j * 2) [.int .i64 z.t, .int .i64 z.n]) q [.int .i64 y.t, .int .i64 y.n]) := HR7.out.apartCs (Ne.symm hG6) _ _
          have HX8 : Hid (Row (w7.setCells gk (j * 2) [.int .i64 z.t, .int .i64 z.n]) w.heap.size [.int .i64 0, .int .i64 0]) := HX7.out.apartCs hne _ _
          have HB8 : Hid (Below w.heap.size w (w7.setCells gk (j * 2) [.int .i64 z.t, .int .i64 z.n])) := below_setCs hG0 _ _ HB7.out
          show wpList _ _ _ _ _ (w7.setCells gk (j * 2) [.int .i64 z.t, .int .i64 z.n])
          generalize w7.setCells gk (j * 2) [.int .i64 z.t, .int .i64 z.n] = w8 at HR8 HO8 HB8 HX8 ⊢
          clear HR7 HO7 HB7 HX7 z0 z1
          have y0 := HR8.out.cell 0 _ rfl
          have y1 := HR8.out.cell 1 _ rfl
          go_wp2_with (refine stay_store 30 ?_)
          refine ⟨?_⟩
          refine wpList_store_mid rfl 30 _ _ rfl gk (c * 2) _ rfl rfl (HO8.out.room (c * 2) 2 (by rw [flatD_len, List.length_set, HZl.out]; omega)) szDue (by simp [Value.oneCell']) ?_
          have HO9 : Hid (Row (w8.setCells gk (c * 2) [.int .i64 y.t, .int .i64 y.n]) gk (flatD (dsw zs j c))) := by
            show Row _ _ _
            rw [← dsw_two HYm.out HZ.out, ← flatD_set y (by rw [List.length_set]; exact HK1.out)]
            exact HO8.out.setCs [.int .i64 y.t, .int .i64 y.n] (c * 2) (by simp [flatD_len, HZl.out]; omega)
          have HX9 : Hid (Row (w8.setCells gk (c * 2) [.int .i64 y.t, .int .i64 y.n]) w.heap.size [.int .i64 0, .int .i64 0]) := HX8.out.apartCs hne _ _
          have HB9 : Hid (Below w.heap.size w (w8.setCells gk (c * 2) [.int .i64 y.t, .int .i64 y.n])) := below_setCs hG0 _ _ HB8.out
          show wpList _ _ _ _ _ (w8.setCells gk (c * 2) [.int .i64 y.t, .int .i64 y.n])
          generalize w8.setCells gk (c * 2) [.int .i64 y.t, .int .i64 y.n] = w9 at HO9 HB9 HX9 ⊢
          clear HR8 HO8 HB8 HX8 y0 y1
          have hdd := l10Down_c (some ⟨gk, 0, none⟩) ck (dsw zs j c) (by rw [dsw_len, HZl.out]; omega) c (by omega) w9 (Sq.of_row HO9.out)
          rw [dsw_len, HZl.out] at hdd
          have HDD : Hid (Calls Try.prog 43 #[.slice (some ⟨gk, 0, none⟩) m ck, .int .i64 c] w9 fun e w' => e = .returned (.int .i64 (dwn (dsw zs j c) c)) ∧ Below w9.heap.size w9 w') := hdd
          clear hdd
          go_wp2_with fail
          refine HDD.out.mono ?_
          rintro e w10 ⟨rfl, hb⟩
          go_wp2_with fail
          exact ⟨⟨c, dsw zs j c, by rw [dsw_len]; exact HZl.out, by omega, rfl, rfl, HE.out, HO9.out.below hb, HX9.out.below hb, below_then HB9.out hb⟩, by simp [intOf]; omega⟩
      · have hdw : dwn zs j = -1 := by unfold dwn; rw [if_neg hc]
        have HE : Hid (dpop l = zs) := by show _ = _; rw [← HDn.out, ddn, dif_neg (fun t => hc t.1)]
        rw [hdw]
        clear hdw hc HDn
        go_wp2_with fail
        refine wp_region_beh (by kernel_rfl) (by kernel_rfl) ?_
        repeat (go_big_quiet_step (fail))
        refine wpQuiet_nil ?_
        rintro ⟨w6, hb6⟩
        have HO6 : Hid (Row w6 gk (flatD zs)) := HO.out.below hb6
        have HX6 : Hid (Row w6 w.heap.size [.int .i64 0, .int .i64 0]) := HX.out.below hb6
        have HB6 : Hid (Below w.heap.size w w6) := below_then HB.out hb6
        have c0 := (H.out.below HB6.out).due0 HL0.out
        have c1 := (H.out.below HB6.out).dueK HL0.out 1 (by decide) _ rfl
        rw [HP0.out] at c0 c1
        go_wp2_with (refine stay_store 30 ?_)
        refine ⟨?_⟩
        refine wpList_store_mid rfl 30 _ _ rfl w.heap.size 0 _ rfl rfl (HX6.out.room 0 2 (by simp)) szDue (by simp [Value.oneCell']) ?_
        have HX7 : Hid (Row (w6.setCells w.heap.size 0 [.int .i64 f.t, .int .i64 f.n]) w.heap.size [.int .i64 f.t, .int .i64 f.n]) := HX6.out.setCs [.int .i64 f.t, .int .i64 f.n] 0 (by simp)
        have HB7 : Hid (Below w.heap.size w (w6.setCells w.heap.size 0 [.int .i64 f.t, .int .i64 f.n])) := below_setCs (Nat.le_refl _) _ _ HB6.out
        have HO7 : Hid (Row (w6.setCells w.heap.size 0 [.int .i64 f.t, .int .i64 f.n]) gk (flatD zs)) := HO6.out.apartCs (Ne.symm hne) _ _
        show wpList _ _ _ _ _ (w6.setCells w.heap.size 0 [.int .i64 f.t, .int .i64 f.n])
        generalize w6.setCells w.heap.size 0 [.int .i64 f.t, .int .i64 f.n] = w7 at HX7 HB7 HO7 ⊢
        clear c0 c1
        go_wp2_with fail
        have hv := run_loadVar_mid (P := Try.prog) w7 w.heap.size 0 30 [.int .i64 f.t, .int .i64 f.n] _ HX7.out.all Try.underlying30 rfl szDue
        have HA : AnsD w.heap.size w7.heap.size w7 (dpop l).length (flatD (dpop l)) (.slice (some ⟨gk, 0, none⟩) m ck) := by
          rw [HE.out, HZl.out]
          exact AnsD.of_row (by rw [flatD_len, HZl.out]) HO7.out hG0 HO7.out.lt
        have HCp : CapD (.slice (some ⟨gk, 0, none⟩) m ck) (dpop l).length := by rw [HE.out, HZl.out]; exact ⟨_, _, rfl, hcap⟩
        exact bodyPost_ret (results_mix3 Try.results26 rfl hv) rfl (by rw [HF.out]; exact RetG.yes rfl HP.out HA HCp HB7.out)
end Go.Proofs.Ytdmmjggkdkmeaaa
