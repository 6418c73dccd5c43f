/- Heaps told in order: the program's HeapAll. -/
import Derived.Test.YtdmmjggkdkmeaaaHqI
import Derived.Maps.AppendAt
namespace Go.Proofs.Ytdmmjggkdkmeaaa
open Go.ChangeShapes Go.WideShapes Go.ChangeAt Go.RowKit

/-- What the loop carries: the heap's box at q, what is told so far. -/
structure AllR (w W : World) (l : List Du) (q : Nat) (o : Value) (acc cur : List Du) (a : Option Addr) (c : Nat) : Prop where
  row : Row W q [.slice a cur.length c]
  own : W.ownsRow w.heap.size 30 2 (.slice a cur.length c) cur.length (flatD cur)
  ne : (Value.slice a cur.length c).ownBlock ≠ some q
  out : W.ownsRow w.heap.size 30 2 o acc.length (flatD acc)
  ne1 : o.ownBlock ≠ some q
  ne2 : ∀ g, o.ownBlock = some g → (Value.slice a cur.length c).ownBlock ≠ some g
  low : Below w.heap.size w W
  hq : w.heap.size ≤ q
  ok : HOk cur
  len : acc.length + cur.length ≤ 200
  all : acc ++ dall cur.length cur = dallR l
set_option maxHeartbeats 4000000 in
set_option maxRecDepth 100000 in
theorem implHeapAll_c (b : Option Addr) (d : Nat) (l : List Du) (hl : l.length ≤ 1048576) (w : World) (h : Sq w b (flatD l)) :
    Calls Try.prog 13 #[.slice b l.length d] w (RetL w (dallR l)) := by
  have H : Hid (Sq w b (flatD l)) := h
  clear h
  go_enter Try.func13, Try.ntmps13
  go_wp2_with fail
  refine (implHeapOk_c b d l hl _ H.out).mono ?_
  rintro e w1 ⟨k, rfl, hk, hb⟩
  have HB1 : Hid (Below w.heap.size w w1) := hb
  have HK : Hid (k = true ↔ HOk l) := hk
  clear hk hb
  cases k
  · have HN : Hid (dallR l = []) := by
      show _ = _
      unfold dallR
      rw [if_neg (fun t => by have := HK.out.2 t; cases this)]
    go_wp2_with fail
    go_ret
    exact ⟨_, rfl, by rw [HN.out]; exact AnsD.none _ _ _ _ _, HB1.out⟩
  · have HP : Hid (HOk l) := HK.out.1 rfl
    clear HK
    go_wp2_with fail
    refine (cloneD_c b d l hl _ (H.out.below HB1.out)).mono ?_
    rintro e w2 ⟨v, rfl, ho, hb⟩
    obtain ⟨a, c, rfl⟩ := owns_form2 ho
    have hw1 := HB1.out.size
    have hb2 := below_then HB1.out hb
    have hw2 := hb2.size
    have HA0 : Hid (AllR w (w2.alloc (.cells #[.slice a l.length c] 51)) l w2.heap.size (.slice none 0 0) [] l a c) := {
      row := row_fresh w2 [.slice a l.length c] 51
      own := (owns_mono2 ho hw1).alloc _
      ne := fun e => by have := (ho.lt _ e).2; omega
      out := World.ownsRow_nil _ _ _ _
      ne1 := by simp [Value.ownBlock]
      ne2 := fun g e => by simp [Value.ownBlock] at e
      low := behind_alloc hb2 _
      hq := hw2
      ok := HP.out
      len := by have := HP.out.1; simp; omega
      all := by unfold dallR; rw [if_pos HP.out]; rfl }
    clear ho hb hw1 hb2 hw2
    go_wp2_with fail
    generalize w2.alloc (.cells #[.slice a l.length c] 51) = w3 at HA0 ⊢
    generalize w2.heap.size = q at HA0 ⊢
    go_loopw [3, 4] (fun o r wr => ∃ (q : Nat) (acc cur : List Du) (a : Option Addr) (c : Nat), r = .pointer (some ⟨q, 0, none⟩) ∧ AllR w wr l q o acc cur a c) (fun _ r wr => match r with | .pointer (some p) => (match wr.cell? p with | some (.slice _ n _) => n | _ => 0) | _ => 0)
    case atStart => exact ⟨q, [], l, a, c, rfl, HA0.out⟩
    case round =>
      obtain ⟨q, acc, cur, a, c, rfl, hA⟩ := hrel
      obtain ⟨ao, co, he⟩ := owns_form2 hA.out
      subst he
      have HA : Hid (AllR w wr l q (.slice ao acc.length co) acc cur a c) := hA
      have hq := hA.row.lt
      clear hA HA0
      by_cases h0 : cur.length = 0
      · have hi : ¬ (0 : Int) < (cur.length : Int) := by omega
        have HE : Hid (dallR l = acc) := by
          show _ = _
          have := HA.out.all
          rw [h0] at this
          simpa [dall] using this.symm
        have HAn : Hid (AnsD w.heap.size wr.heap.size wr acc.length (flatD acc) (.slice ao acc.length co)) := AnsD.of_owns HA.out.out
        have r0 := HA.out.row.cell 0 _ rfl
        have HB : Hid (Below w.heap.size w wr) := HA.out.low
        clear h0 HA
        go_wp2_with fail
        go_ret
        exact ⟨_, rfl, by rw [HE.out]; exact HAn.out, HB.out⟩
      · have hi : (0 : Int) < (cur.length : Int) := by omega
        have hcn : cur ≠ [] := fun e => h0 (by rw [e]; rfl)
        obtain ⟨g, hg⟩ : ∃ g, a = some ⟨g, 0, none⟩ := by
          rcases HA.out.own.2 with ⟨_, hz⟩ | ⟨g, cap, _, e, _⟩
          · exact absurd hz h0
          · cases e; exact ⟨g, rfl⟩
        subst hg
        have hgq : g ≠ q := fun e => HA.out.ne (by rw [e]; rfl)
        have hc := pop_c w.heap.size q g c cur (by have := HA.out.len; omega) hcn wr HA.out.row HA.out.own hgq
        have HC : Hid (Calls Try.prog 37 #[.pointer (some ⟨q, 0, none⟩)] wr fun e w' => e = .returned (.agg #[.int .i64 (dg cur 0).t, .int .i64 (dg cur 0).n]) ∧ Row w' q [.slice (some ⟨g, 0, none⟩) (cur.length - 1) c] ∧ w'.ownsRow w.heap.size 30 2 (.slice (some ⟨g, 0, none⟩) (cur.length - 1) c) (cur.length - 1) (flatD (dpop cur)) ∧ Duo wr w' q g) := hc
        have HDa : Hid (dall cur.length cur = dg cur 0 :: dall (cur.length - 1) (dpop cur)) := dall_next hcn
        have HOk2 : Hid (HOk (dpop cur)) := pop_ok ⟨HA.out.ok, hcn⟩
        have HCn : Hid (cur.length ≠ 0) := h0
        have r0 := HA.out.row.cell 0 _ rfl
        have HMr : Hid (wr.cell? ⟨q, 0, none⟩ = some (.slice (some ⟨g, 0, none⟩) cur.length c)) := r0
        clear hc h0 hcn
        go_wp2_with fail
        refine HC.out.mono ?_
        rintro e w5 ⟨rfl, hr, ho, hd⟩
        obtain ⟨f, hf⟩ : ∃ f, dg cur 0 = f := ⟨_, rfl⟩
        rw [hf] at HDa ⊢
        have HR5 : Hid (Row w5 q [.slice (some ⟨g, 0, none⟩) (cur.length - 1) c]) := hr
        have HO5 : Hid (w5.ownsRow w.heap.size 30 2 (.slice (some ⟨g, 0, none⟩) (cur.length - 1) c) (cur.length - 1) (flatD (dpop cur))) := ho
        have HT5 : Hid (w5.ownsRow w.heap.size 30 2 (.slice ao acc.length co) acc.length (flatD acc)) := hd.owns HA.out.out HA.out.ne1 (fun e => HA.out.ne2 g e rfl)
        have hqw := HA.out.hq
        have HB5 : Hid (Below w.heap.size w w5) := HA.out.low.trans (hd.below HA.out.low.size hqw (HA.out.own.lt g rfl).1)
        have HN1 : Hid ((Value.slice ao acc.length co).ownBlock ≠ some q) := HA.out.ne1
        have HN2 : Hid (∀ k, (Value.slice ao acc.length co).ownBlock = some k → k ≠ g) := fun k e t => HA.out.ne2 k e (by rw [t]; rfl)
        have HLe : Hid (acc.length + cur.length ≤ 200) := HA.out.len
        have HAl : Hid (acc ++ dall cur.length cur = dallR l) := HA.out.all
        have hal : acc.length ≤ 200 := by have := HA.out.len; omega
        have hq5 : q < w5.heap.size := hr.lt
        have hg5 : g < w5.heap.size := (ho.lt g rfl).2
        clear hr ho hd hf HA HC r0 hi
        obtain ⟨i0, hi0, hz0, hz1, hz2⟩ := info_parts infoDue
        have HT6 : Hid ((w5.alloc (.cells #[.int .i64 f.t, .int .i64 f.n] 30)).ownsRow w.heap.size 30 2 (.slice ao acc.length co) acc.length (flatD acc)) := HT5.out.alloc _
        have HB6 : Hid (Below w.heap.size w (w5.alloc (.cells #[.int .i64 f.t, .int .i64 f.n] 30))) := behind_alloc HB5.out _
        have HR6 : Hid (Row (w5.alloc (.cells #[.int .i64 f.t, .int .i64 f.n] 30)) q [.slice (some ⟨g, 0, none⟩) (cur.length - 1) c]) := HR5.out.below (low_alloc _ _)
        have HO6 : Hid ((w5.alloc (.cells #[.int .i64 f.t, .int .i64 f.n] 30)).ownsRow w.heap.size 30 2 (.slice (some ⟨g, 0, none⟩) (cur.length - 1) c) (cur.length - 1) (flatD (dpop cur))) := HO5.out.alloc _
        have hs6 : (w5.alloc (.cells #[.int .i64 f.t, .int .i64 f.n] 30)).heap.size = w5.heap.size + 1 := by simp [go_sem]
        have hb6 := HB6.out.size
        go_wp2_with (at_builtin; refine wpList_append_own_at _ rfl _ _ 23 rfl w.heap.size 30 i0 (.agg #[.int .i64 0, .int .i64 0]) 2 16 Try.underlying23 hi0 hz0 hz1 hz2 rfl (by decide) (.slice ao acc.length co) acc.length (flatD acc) rfl HT6.out ⟨w5.heap.size, 0, none⟩ 1 1 [.int .i64 f.t, .int .i64 f.n] rfl rfl ?c1 ?c2 ?c3 ?c4 ?c5 ?_)
        case c1 =>
          intro j u hu
          rw [add_plain, Nat.zero_add]
          exact (row_fresh w5 [.int .i64 f.t, .int .i64 f.n] 30).cell j u hu
        case c2 => simp [Value.oneCell']
        case c3 => unfold maxLen; omega
        case c4 => omega
        case c5 => exact hb6
        · intro v' w7 hown hgrow _ hat
          obtain ⟨g', C', rfl⟩ : ∃ g' C', v' = .slice (some ⟨g', 0, none⟩) (acc.length + 1) C' := by
            rcases hown.2 with ⟨_, hz⟩ | ⟨g', cap, _, e, _⟩
            · omega
            · exact ⟨g', cap, e⟩
          have e9 : flatD acc ++ [.int .i64 f.t, .int .i64 f.n] = flatD (acc ++ [f]) := by rw [flatD_add]; rfl
          have hml : (dpop cur).length = cur.length - 1 := dpop_len cur
          have hgq' : g' ≠ q := fun e => by
            rcases hat with h | h
            · exact HN1.out (by rw [← h, e]; rfl)
            · have := Option.some.inj h; simp at this; omega
          have hgg' : g' ≠ g := fun e => by
            rcases hat with h | h
            · exact HN2.out g' (by rw [← h]; rfl) e
            · have := Option.some.inj h; simp at this; omega
          have hR7 : Row w7 q [.slice (some ⟨g, 0, none⟩) (dpop cur).length c] := by rw [hml]; exact HR6.out.far hgrow (fun e => HN1.out e.symm)
          have hO7 : w7.ownsRow w.heap.size 30 2 (.slice (some ⟨g, 0, none⟩) (dpop cur).length c) (dpop cur).length (flatD (dpop cur)) := by
            rw [hml]; exact HO6.out.kept hgrow (.inr (fun e => HN2.out g e.symm rfl))
          have hB7 : Below w.heap.size w w7 := HB6.out.grown hgrow hb6 (fun k hk => (HT6.out.lt k hk).1)
          have hT7 : w7.ownsRow w.heap.size 30 2 (.slice (some ⟨g', 0, none⟩) (acc.length + 1) C') (acc ++ [f]).length (flatD (acc ++ [f])) := by
            rw [← e9, List.length_append]; exact hown
          have hg7 := hO7.lt g rfl
          have hg7' := hT7.lt g' rfl
          have HA7 : Hid (AllR w (w7.alloc (.cells #[.slice (some ⟨g, 0, none⟩) (dpop cur).length c] 51)) l w7.heap.size (.slice (some ⟨g', 0, none⟩) (acc.length + 1) C') (acc ++ [f]) (dpop cur) (some ⟨g, 0, none⟩) c) := {
            row := row_fresh w7 [.slice (some ⟨g, 0, none⟩) (dpop cur).length c] 51
            own := hO7.alloc _
            ne := fun e => by have := Option.some.inj e; simp at this; omega
            out := hT7.alloc _
            ne1 := fun e => by have := Option.some.inj e; simp at this; omega
            ne2 := fun k e t => hgg' ((Option.some.inj e).trans (Option.some.inj t).symm)
            low := behind_alloc hB7 _
            hq := hB7.size
            ok := HOk2.out
            len := by rw [List.length_append, hml]; have := HLe.out; simp; omega
            all := by rw [← HAl.out, HDa.out, hml, List.append_assoc]; rfl }
          have HR7 : Hid (Row w7 q [.slice (some ⟨g, 0, none⟩) (dpop cur).length c]) := hR7
          have HMs : Hid ((dpop cur).length < cur.length) := by show _ < _; rw [hml]; have := HCn.out; omega
          clear hown hgrow hat e9 hml hgq' hgg' hR7 hO7 hB7 hT7 hg7 hg7' HT6 HB6 HR6 HO6 hs6 hb6 HR5 HO5 HT5 HB5 hq5 hg5 hi0 hz0 hz1 hz2 hqw
          have r0 := HR7.out.cell 0 _ rfl
          go_wp2_with fail
          go_roundw
          case rel => exact ⟨_, acc ++ [f], dpop cur, _, _, rfl, HA7.out⟩
          case measure =>
            have h1 := HA7.out.row.cell 0 _ rfl
            have h2 := HMr.out
            have h3 := HMs.out
            simp only [h1, h2]
            exact h3
end Go.Proofs.Ytdmmjggkdkmeaaa
