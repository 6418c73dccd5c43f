/- JournalSync: the specification's. -/
import Derived.Test.YtpdmhpcejmankaaDoorJoN
import Derived.Deep.AppendLies
import Derived.Deep.RegionHeld3
namespace Go.Proofs.YtpdmhpcejmankaaDoor
open Go.ChangeShapes Go.WideShapes Go.ChangeAt Go.RowKit
open Go.Joins (ownsRow_forms)

/-- An append to a slice of the call's own that is not nil, at a step of a region that draws; of no element too. -/
theorem step_app_own {P : Program} {w : World} {ops : Array Oper} {o : Oper} {a : Act} {K : Act → World → Prop} {Q : Exit → Act → World → Prop} {E : Prop} (hgd : o.guard = none) (s x : Operand) (t : TypeId)
    (ho : o.op = .call { callee := .builtin .append, args := #[s, x], argTypes := #[t, t] }) (base : Nat) (e : TypeId) (i : TypeInfo) (z : Value) (size bytes : Nat) (ht : P.underlying t = some (.slice e)) (hi : P.info? e = some i) (hz : i.zero = some z)
    (hsize : i.size = size) (hby : i.bytes = bytes) (hzs : z.cells.size = size) (hsz : 0 < size) (blk n0 c0 : Nat) (xs : List Value) (hs : a.eval s = .slice (some ⟨blk, 0, none⟩) n0 c0) (hown : w.ownsRow base e size (.slice (some ⟨blk, 0, none⟩) n0 c0) n0 xs)
    (ad : Addr) (m c : Nat) (news : List Value) (hx : a.eval x = .slice (some ad) m c) (hl : news.length = m * size) (hnews : ∀ j u, news[j]? = some u → w.cell? (ad.add j) = some u) (h1 : ∀ u ∈ news, u.oneCell' = true)
    (h63 : n0 + m ≤ maxLen) (hbytes : (n0 + m) * bytes ≤ 140737488355328) (hbase : base ≤ w.heap.size)
    (h : ∀ g cap w', w'.ownsRow base e size (.slice (some ⟨g, 0, none⟩) (n0 + m) cap) (n0 + m) (xs ++ news) → w.grownBy w' (some blk) → K (a.put o.dst (.slice (some ⟨g, 0, none⟩) (n0 + m) cap)) w') :
    if Region.wanted o (yielded ops a.tmps) = true then Oper.wp P o a w K Q else E := by
  have hw : Region.wanted o (yielded ops a.tmps) = true := by simp [Region.wanted, hgd]
  rw [if_pos hw]
  obtain ⟨v', w', hr, h2, h3, h4, _⟩ := run_append_own_at (P := P) w base t o.type e i z size bytes ht hi hz hsize hby hzs hsz (.slice (some ⟨blk, 0, none⟩) n0 c0) n0 xs hown ad m c news hl hnews h1 h63 hbytes hbase
  unfold Oper.wp execOp
  simp only [ho, resolve, invoke, builtin, Sem.run_bind, Sem.run_pure, Result.andThen_ok, List.map_toArray, List.map_cons, List.map_nil, hs, hx, hr]
  rcases ownsRow_forms h2 with ⟨rfl, _⟩ | ⟨g, cap, rfl⟩
  · exact absurd (h4.1 rfl).1 (by simp)
  · exact h g cap w' h2 h3

/-- What a region that makes a copy of a journal's bytes keeps: the journal's own box. -/
structure Kq (w : World) (P : Nat) (xs : List Value) (W : World) : Prop where
  low : Below w.heap.size w W
  p : Row W P xs

theorem Kq.set {w W : World} {P : Nat} {xs : List Value} (h : Kq w P xs W) (R i : Nat) (v : Value) (hR : w.heap.size ≤ R) (hne : R ≠ P) : Kq w P xs (W.setCell ⟨R, i, none⟩ v) :=
  ⟨h.low.setCell (p := ⟨R, i, none⟩) hR _, h.p.other R i v hne⟩

theorem Kq.below {w W W' : World} {P : Nat} {xs : List Value} (h : Kq w P xs W) (hb : Below W.heap.size W W') : Kq w P xs W' := ⟨below_then h.low hb, h.p.below hb⟩

set_option maxHeartbeats 4000000 in
set_option maxRecDepth 100000 in
theorem specJournalSync_c (w : World) (g : Nat) (l : List UInt8) (s k : Int) (ok : Bool) (hok : jokB l s k = ok) (h : Row w g (bys l)) (hl : l.length ≤ 1048576) :
    Calls Tryd.prog 32 #[.agg #[.slice (some ⟨g, 0, none⟩) l.length l.length, .int .i64 s, .int .i64 k]] w fun e w' =>
      ∃ v, e = .returned (.agg #[v, .int .i64 (bif ok then (l.length : Int) else 0), .int .i64 (bif ok then k else 0)]) ∧ Ans w.heap.size w'.heap.size w' (bys (bif ok then l else [])) v ∧ Below w.heap.size w w' := by
  have H : Hid (JA w (some ⟨g, 0, none⟩) l.length l) := JA.of_row h
  have HG : Hid (Row w g (bys l)) := h
  have HOK : Hid (jokB l s k = ok) := hok
  have HX : Hid (∀ V, _ → _ ∧ _ ∧ _) := jbox2 w (some ⟨g, 0, none⟩) none l.length l.length 0 0 s k 0 0
  clear h hok
  go_enter Tryd.func32, Tryd.ntmps32
  go_wp2_with fail
  generalize hV : (w.alloc (.cells #[.slice (some ⟨g, 0, none⟩) l.length l.length, .int .i64 s, .int .i64 k] 24)).alloc (.cells #[.slice none 0 0, .int .i64 0, .int .i64 0] 24) = V
  obtain ⟨hr1, hr2, hb0⟩ := HX.out V hV.symm
  have HA : Hid (Row V w.heap.size [.slice (some ⟨g, 0, none⟩) l.length l.length, .int .i64 s, .int .i64 k]) := hr1
  have HR : Hid (Row V (w.heap.size + 1) [.slice none 0 0, .int .i64 0, .int .i64 0]) := hr2
  have HV : Hid (Below w.heap.size w V) := hb0
  clear hr1 hr2 hb0 hV HX
  refine (specJournalOk_c V _ l.length l s k (H.out.below HV.out) hl).mono ?_
  rintro e w1 ⟨rfl, hb⟩
  rw [HOK.out]
  have HB1 : Hid (Below w.heap.size w w1) := below_then HV.out hb
  have HA1 : Hid (Row w1 w.heap.size [.slice (some ⟨g, 0, none⟩) l.length l.length, .int .i64 s, .int .i64 k]) := HA.out.below hb
  have HR1 : Hid (Row w1 (w.heap.size + 1) [.slice none 0 0, .int .i64 0, .int .i64 0]) := HR.out.below hb
  have t0 := HA1.out.cell 0 _ rfl
  have t2 := HA1.out.cell 2 _ rfl
  have r0 := HR1.out.cell 0 _ rfl
  have r1 := HR1.out.cell 1 _ rfl
  have r2 := HR1.out.cell 2 _ rfl
  have rf0 := HR1.out.free 0
  have rf1 := HR1.out.free 1
  have rf2 := HR1.out.free 2
  clear hb HA HR
  cases ok
  · have HF : Hid (∀ F, _ → _ ∧ _ ∧ _) := fin_journal (w := w) (s := 0) (k := 0) HR1.out (⟨none, 0, rfl, .inl rfl⟩ : Ans (w.heap.size + 2) w1.heap.size w1 [] (.slice none 0 0)) (by omega) HB1.out (Nat.le_succ _)
    go_wp2_with fail
    generalize hF : World.setCell _ (⟨w.heap.size + 1, 2, none⟩ : Addr) _ = F
    obtain ⟨h1, h2, h3, _⟩ := HF.out F hF.symm
    have f0 := h1.cell 0 _ rfl
    have f1 := h1.cell 1 _ rfl
    have f2 := h1.cell 2 _ rfl
    refine bodyPost_ret (v := .agg #[.slice none 0 0, .int .i64 0, .int .i64 0]) (by simp [results, Tryd.results32, go_sem, f0, f1, f2]) rfl ?_
    exact ⟨_, rfl, ⟨none, 0, rfl, .inl rfl⟩, h3⟩
  · obtain ⟨i0, hi, hz0, hz1, hz2⟩ := info_parts infoByte
    have hlt1 : w.heap.size < w1.heap.size := HA1.out.lt
    have hlt2 : w.heap.size + 1 < w1.heap.size := HR1.out.lt
    have hne1 : w.heap.size ≠ w1.heap.size := by omega
    have hne2 : w.heap.size + 1 ≠ w1.heap.size := by omega
    have hgl : g < w.heap.size := HG.out.lt
    have HU : Hid (Below w1.heap.size w1 (w1.alloc (.cells #[] 5)).drew) := below_then (low_alloc w1 _) (low_drew _)
    have HOw : Hid ((w1.alloc (.cells #[] 5)).drew.ownsRow w1.heap.size 5 1 (.slice (some ⟨w1.heap.size, 0, none⟩) 0 0) 0 []) := owns_kept (World.ownsRow_made w1 #[] 0 (Nat.le_refl _) (by decide) rfl) (low_drew _)
    have HN : Hid (∀ j u, (bys l)[j]? = some u → (w1.alloc (.cells #[] 5)).drew.cell? ((⟨g, 0, none⟩ : Addr).add j) = some u) := fun j u hj => by
      rw [add_plain, Nat.zero_add]
      exact ((HG.out.below HB1.out).below HU.out).cell j u hj
    have H1c : Hid (∀ u ∈ bys l, u.oneCell' = true) := fun u hu => by obtain ⟨b, _, rfl⟩ := List.mem_map.1 hu; rfl
    go_wp2_with fail
    have K1 : Hid (Kq w w.heap.size [.slice (some ⟨g, 0, none⟩) l.length l.length, .int .i64 s, .int .i64 k] w1) := ⟨HB1.out, HA1.out⟩
    have K2 : Hid (Kq w w.heap.size [.slice (some ⟨g, 0, none⟩) l.length l.length, .int .i64 s, .int .i64 k] (w1.alloc (.cells #[] 5)).drew) := K1.out.below HU.out
    have hRne : w.heap.size + 1 ≠ w.heap.size := by omega
    have HK : Hid (∀ W, Kq w w.heap.size [.slice (some ⟨g, 0, none⟩) l.length l.length, .int .i64 s, .int .i64 k] W → Kq w w.heap.size [.slice (some ⟨g, 0, none⟩) l.length l.length, .int .i64 s, .int .i64 k] W ∧ W.cell? ⟨w.heap.size, 0, none⟩ = some (.slice (some ⟨g, 0, none⟩) l.length l.length) ∧ W.cell? ⟨w.heap.size, 2, none⟩ = some (.int .i64 k)) := fun W hW => ⟨hW, hW.p.cell 0 _ rfl, hW.p.cell 2 _ rfl⟩
    clear t0 t2
    go_region_held3 (fun W => Kq w w.heap.size [.slice (some ⟨g, 0, none⟩) l.length l.length, .int .i64 s, .int .i64 k] W ∧ W.cell? ⟨w.heap.size, 0, none⟩ = some (.slice (some ⟨g, 0, none⟩) l.length l.length) ∧ W.cell? ⟨w.heap.size, 2, none⟩ = some (.int .i64 k))
      (first | exact HK.out _ (K1.out.below (low_drew _)) | exact HK.out _ K2.out | exact HK.out _ Kk.out | exact HK.out _ (((Kk.out.set _ 0 _ (Nat.le_succ _) hRne).set _ 1 _ (Nat.le_succ _) hRne).set _ 2 _ (Nat.le_succ _) hRne) | (trace_state; done))
      ((refine step_app_own rfl _ _ 22 rfl w1.heap.size 5 i0 (.int .u8 0) 1 1 Tryd.underlying22 hi hz0 hz1 hz2 rfl (by decide) w1.heap.size 0 0 [] (by rfl) HOw.out ⟨g, 0, none⟩ l.length l.length (bys l) (by rfl) (by rw [bys_len]; omega) HN.out H1c.out (by unfold maxLen; omega) (by omega) (by simp) ?_; intro gk ck wk hown hgrow; have HA2 : Hid (Row wk w.heap.size [.slice (some ⟨g, 0, none⟩) l.length l.length, .int .i64 s, .int .i64 k]) := (HA1.out.below HU.out).far hgrow (fun e => hne1 (Option.some.inj e)); have HR2 : Hid (Row wk (w.heap.size + 1) [.slice none 0 0, .int .i64 0, .int .i64 0]) := (HR1.out.below HU.out).far hgrow (fun e => hne2 (Option.some.inj e)); have HB2 : Hid (Below w.heap.size w wk) := (below_then HB1.out HU.out).grown hgrow (Nat.le_trans HB1.out.size HU.out.size) (fun q hq => by cases hq; omega); have HAn : Hid (Ans w1.heap.size wk.heap.size wk (bys l) (.slice (some ⟨gk, 0, none⟩) l.length ck)) := Ans.of_owns (by simpa using hown); have r02 := HR2.out.cell 0 _ rfl; have r12 := HR2.out.cell 1 _ rfl; have r22 := HR2.out.cell 2 _ rfl; have rf02 := HR2.out.free 0; have rf12 := HR2.out.free 1; have rf22 := HR2.out.free 2; rw [Nat.zero_add]; have Kk : Hid (Kq w w.heap.size [.slice (some ⟨g, 0, none⟩) l.length l.length, .int .i64 s, .int .i64 k] wk) := ⟨HB2.out, HA2.out⟩; clear hown hgrow))
    go_split_ands
    all_goals
      have HF := fin_journal (w := w) (s := (l.length : Int)) (k := k) HR2.out HAn.out hlt2 HB2.out (Nat.le_succ _) _ rfl
      generalize World.setCell _ (⟨w.heap.size + 1, 2, none⟩ : Addr) _ = F at HF ⊢
      obtain ⟨h1, h2, h3, h4⟩ := HF
      have f0 := h1.cell 0 _ rfl
      have f1 := h1.cell 1 _ rfl
      have f2 := h1.cell 2 _ rfl
      have hlo : w.heap.size ≤ w1.heap.size := HB1.out.size
      have HL : Hid (Ans w1.heap.size wk.heap.size F (bys l) (.slice (some ⟨gk, 0, none⟩) l.length ck) ∧ Below w.heap.size w F ∧ wk.heap.size ≤ F.heap.size) := ⟨h2, h3, by omega⟩
      clear h1 h2 h3 h4 r02 r12 r22 rf02 rf12 rf22 HR2 HA2 HB2 HAn
      go_wp2_with fail
      refine bodyPost_ret (v := .agg #[.slice (some ⟨gk, 0, none⟩) l.length ck, .int .i64 (l.length : Int), .int .i64 k]) (by simp [results, Tryd.results32, go_sem, f0, f1, f2]) rfl ?_
      exact ⟨_, rfl, HL.out.1.wide hlo HL.out.2.2, HL.out.2.1⟩
end Go.Proofs.YtpdmhpcejmankaaDoor
