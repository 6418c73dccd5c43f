/- The reader of records: one record. -/
import Derived.Test.YtpdmhpcejmankaaDoorJoD
import Derived.Maps.AppendAt
namespace Go.Proofs.YtpdmhpcejmankaaDoor
open Go.ChangeShapes Go.WideShapes Go.ChangeAt Go.RowKit
open Go.Joins (ownsRow_forms)

theorem owns_kept {w w' : World} {B n size : Nat} {e : TypeId} {v : Value} {xs : List Value} (h : w.ownsRow B e size v n xs) (hb : Below w.heap.size w w') : w'.ownsRow B e size v n xs :=
  h.kept (row := none) ⟨hb.os, hb.tape, hb.output, hb.size, fun i hi _ => hb.block i hi⟩ (by cases v.ownBlock <;> simp)

/-- The reader's box between two records: l is left, acc are the texts so far, k their bytes. V: the world in which the reader was made. -/
structure RS (V W : World) (R : Nat) (l : List UInt8) (p : Option Addr) (c : Nat) (acc : List (List UInt8)) (v : Value) (k : Nat) : Prop where
  box : Row W R [.slice p l.length c, v, .int .i64 (k : Int)]
  bytes : ByA W p l
  le : l.length ≤ c
  nilc : p = none → c = 0
  old : ∀ a, p = some a → a.block < V.heap.size
  own : W.ownsRow (R + 1) 9 1 v acc.length (strs acc)
  high : V.heap.size ≤ R
  grown : Below V.heap.size V W

/-- Where the reader gave up. -/
structure RT (V W : World) (R : Nat) (acc : List (List UInt8)) (v : Value) (k : Nat) : Prop where
  box : ∃ x, Row W R [x, v, .int .i64 (k : Int)]
  own : W.ownsRow (R + 1) 9 1 v acc.length (strs acc)
  high : V.heap.size ≤ R
  grown : Below V.heap.size V W

theorem RS.rt {V W : World} {R : Nat} {l : List UInt8} {p : Option Addr} {c : Nat} {acc : List (List UInt8)} {v : Value} {k : Nat} (h : RS V W R l p c acc v k) : RT V W R acc v k :=
  ⟨⟨_, h.box⟩, h.own, h.high, h.grown⟩

theorem RS.below {V W W' : World} {R : Nat} {l : List UInt8} {p : Option Addr} {c : Nat} {acc : List (List UInt8)} {v : Value} {k : Nat} (h : RS V W R l p c acc v k) (hb : Below W.heap.size W W') : RS V W' R l p c acc v k :=
  ⟨h.box.below hb, h.bytes.below hb, h.le, h.nilc, h.old, owns_kept h.own hb, h.high, below_then h.grown hb⟩

theorem RT.below {V W W' : World} {R : Nat} {acc : List (List UInt8)} {v : Value} {k : Nat} (h : RT V W R acc v k) (hb : Below W.heap.size W W') : RT V W' R acc v k :=
  ⟨h.box.elim fun x hx => ⟨x, hx.below hb⟩, owns_kept h.own hb, h.high, below_then h.grown hb⟩

/-- The library's variables that the reader leans on. -/
def EnvJ (w : World) : Prop := Tab w ∧ MaxB w
theorem EnvJ.on {w w' : World} (h : EnvJ w) (hb : Below w.heap.size w w') : EnvJ w' := ⟨h.1.on hb, h.2.on hb⟩

theorem RS.left {V W : World} {R : Nat} {l : List UInt8} {p : Option Addr} {c : Nat} {acc : List (List UInt8)} {v : Value} {k : Nat} (h : RS V W R l p c acc v k) (j : Nat) (hj : j ≤ l.length) :
    RS V (W.setCell ⟨R, 0, none⟩ (leftV p l.length c j)) R (l.drop j) (if c = j then p else p.map (fun x => x.add j)) (c - j) acc v k := by
  have hmap : ∀ a, (if c = j then p else p.map (fun x => x.add j)) = some a → a.block < V.heap.size := fun a e => by
    by_cases hc : c = j
    · rw [if_pos hc] at e; exact h.old a e
    · rw [if_neg hc] at e
      cases p with
      | none => simp at e
      | some b =>
        simp at e
        subst e
        rw [block_add]
        exact h.old b rfl
  refine ⟨?_, ?_, by rw [List.length_drop]; have := h.le; omega, fun e => ?_, hmap, ?_, h.high, ?_⟩
  · have := h.box.set 0 (by simp) (leftV p l.length c j)
    rw [List.length_drop]
    exact this
  · exact ((h.bytes.from j c h.le hj).far R _ (fun q o e e2 => by have h1 := hmap _ e; have := h.high; simp at h1; omega))
  · by_cases hc : c = j
    · omega
    · rw [if_neg hc] at e
      cases p with
      | none => have := h.nilc rfl; omega
      | some a => simp at e
  · exact h.own.kept (Lib.grownBy_setCell W R 0 _) (.inr (fun e => by have := (h.own.lt R e).1; omega))
  · exact h.grown.setCell (p := ⟨R, 0, none⟩) h.high _
theorem RS.right {V W : World} {R : Nat} {l : List UInt8} {p : Option Addr} {c : Nat} {acc : List (List UInt8)} {v : Value} {k : Nat} {t r : List UInt8} (h : RS V W R l p c acc v k) (h1 : rec1 acc.length l = some (t, r)) :
    ∃ p' c', leftV p l.length c (hdL acc.length).length = .slice p' (t ++ 10 :: r).length c' ∧ RS V (W.setCell ⟨R, 0, none⟩ (.slice p' (t ++ 10 :: r).length c')) R (t ++ 10 :: r) p' c' acc v k := by
  have hl := (rec1_some h1).1
  have hle : (hdL acc.length).length ≤ l.length := by rw [hl]; simp
  have hd : l.drop (hdL acc.length).length = t ++ 10 :: r := by rw [hl, List.append_assoc, List.drop_left]
  have hn : l.length - (hdL acc.length).length = (t ++ 10 :: r).length := by rw [← List.length_drop, hd]
  have := h.left (hdL acc.length).length hle
  rw [hd] at this
  refine ⟨_, _, by unfold leftV; rw [hn], ?_⟩
  unfold leftV at this
  rw [hn] at this
  exact this

theorem RS.tail {V W : World} {R : Nat} {p : Option Addr} {c : Nat} {acc : List (List UInt8)} {v : Value} {k : Nat} {t r : List UInt8} (h : RS V W R (t ++ 10 :: r) p c acc v k) :
    ∃ p' c', leftV p (t ++ 10 :: r).length c (t.length + 1) = .slice p' r.length c' ∧ RS V (W.setCell ⟨R, 0, none⟩ (.slice p' r.length c')) R r p' c' acc v k := by
  have hd : (t ++ 10 :: r).drop (t.length + 1) = r := by
    have : t ++ 10 :: r = (t ++ [10]) ++ r := by simp
    rw [this, List.drop_left']
    simp
  have hn : (t ++ 10 :: r).length - (t.length + 1) = r.length := by simp only [List.length_append, List.length_cons]; omega
  have := h.left (t.length + 1) (by simp)
  rw [hd] at this
  refine ⟨_, _, by unfold leftV; rw [hn], ?_⟩
  unfold leftV at this
  rw [hn] at this
  exact this

theorem add_blank (n : Nat) (W : World) : (Op.stringOp .add ⟨(numL (n : Int)).toArray⟩ ⟨#[32]⟩).run Tryd.prog W = .ok (.string ⟨(hdL n).toArray⟩) W :=
  run_string_add_lists W (numL (n : Int)) [32] (by
    have := hd_len n
    rw [hdL, List.length_append] at this
    omega) (by simp)

set_option maxHeartbeats 2000000 in
theorem record_yes (V W : World) (R : Nat) (l : List UInt8) (p : Option Addr) (c : Nat) (acc : List (List UInt8)) (v : Value) (k : Nat) (t r : List UInt8) (h : RS V W R l p c acc v k) (he : EnvJ V)
    (h1 : rec1 acc.length l = some (t, r)) (hbig : l.length ≤ 1048576) (hk : k ≤ 1048576) (ha : acc.length ≤ 1048576) :
    Calls Tryd.prog 62 #[.pointer (some ⟨R, 0, none⟩)] W fun e w' =>
      e = .returned (.tuple #[]) ∧ ∃ p' c' v', RS V w' R r p' c' (acc ++ [t]) v' (k + (l.length - r.length)) := by
  have H : Hid (RS V W R l p c acc v k) := h
  have HE : Hid (EnvJ V) := he
  have c0 := h.box.cell 0 _ rfl
  have c1 := h.box.cell 1 _ rfl
  have c2 := h.box.cell 2 _ rfl
  have f1 := h.box.free 1
  have f2 := h.box.free 2
  have hadd := add_blank acc.length
  have hform : ∃ a cap, v = .slice a acc.length cap := by
    rcases ownsRow_forms h.own with ⟨rfl, hn⟩ | ⟨g, cap, rfl⟩
    · exact ⟨none, 0, by rw [hn]⟩
    · exact ⟨_, _, rfl⟩
  obtain ⟨a0, cap0, rfl⟩ := hform
  have H1 : Hid (rec1 acc.length l = some (t, r)) := h1
  have HP : Hid ((hdL acc.length).isPrefixOf l = true) := List.isPrefixOf_iff_prefix.2 ⟨t ++ 10 :: r, by rw [← List.append_assoc]; exact (rec1_some h1).1.symm⟩
  have hlen : (t ++ 10 :: r).length ≤ l.length := by have := congrArg List.length (rec1_some h1).1; simp at this ⊢; omega
  have hrl : r.length ≤ l.length := by simp at hlen; omega
  have htk : (t ++ 10 :: r).take t.length = t := by simp
  clear h he h1
  go_enter Tryd.func62, Tryd.ntmps62
  go_wp2_with fail
  refine (implNumText_c _ _ (HE.out.1.on H.out.grown)).mono ?_
  rintro e w1 ⟨rfl, hb1⟩
  have HA : Hid (RS V w1 R l p c acc (.slice a0 acc.length cap0) k) := H.out.below hb1
  clear hb1 H c0 c1 c2 f1 f2
  go_wp2_with fail
  refine (skip_yes w1 R p c l (hdL acc.length) _ k HA.out.box HA.out.bytes HA.out.le HP.out (hd_pos _)).mono ?_
  rintro e w2 ⟨rfl, w2', hb2, rfl⟩
  obtain ⟨p2, cp2, he2, h2⟩ := (HA.out.below hb2).right H1.out
  rw [he2]
  generalize w2'.setCell ⟨R, 0, none⟩ (.slice p2 (t ++ 10 :: r).length cp2) = w3 at h2
  have HB : Hid (RS V w3 R (t ++ 10 :: r) p2 cp2 acc (.slice a0 acc.length cap0) k) := h2
  clear h2 he2 hb2 HA hadd
  go_wp2_with fail
  refine (text_yes w3 R p2 cp2 t.length (t ++ 10 :: r) _ k HB.out.box HB.out.bytes HB.out.le HB.out.nilc (HE.out.2.on HB.out.grown) (rec1_some H1.out).2.2 (by rw [htk]; exact (rec1_some H1.out).2.1) (by omega) (fun q o e e2 => by have h3 := HB.out.old _ e; have := HB.out.high; simp at h3; omega)).mono ?_
  rw [htk]
  rintro e w4 ⟨rfl, w4', hb4, rfl⟩
  obtain ⟨p5, cp5, he5, h5⟩ := (HB.out.below hb4).tail
  rw [he5]
  generalize w4'.setCell ⟨R, 0, none⟩ (.slice p5 r.length cp5) = w5 at h5
  have HC : Hid (RS V w5 R r p5 cp5 acc (.slice a0 acc.length cap0) k) := h5
  have c1 := h5.box.cell 1 _ rfl
  clear h5 he5 hb4 HB
  obtain ⟨i0, hi, hz0, hz1, hz2⟩ := info_parts infoStr
  have hR : R + 1 ≤ w5.heap.size := HC.out.box.lt
  go_wp2_with (at_builtin; refine wpList_append_own _ rfl _ _ 29 rfl (R + 1) 9 i0 (.string ByteArray.empty) 1 16 Tryd.underlying29 hi hz0 hz1 hz2 rfl (by decide) _ _ _ rfl (HC.out.own.alloc _) ⟨w5.heap.size, 0, none⟩ 1 1 [.string ⟨t.toArray⟩] rfl rfl ?q1 ?q2 ?q3 ?q4 ?q5 ?_)
  case q1 =>
    intro j u hj
    match j, hj with
    | 0, hj => simp at hj; subst hj; simp [Addr.add]
  case q2 => intro u hu; simp at hu; subst hu; rfl
  case q3 => unfold maxLen; omega
  case q4 => omega
  case q5 => simp; omega
  intro v1 w6 hown6 hgrow6 _
  rcases ownsRow_forms hown6 with ⟨rfl, hn0⟩ | ⟨g, cap6, rfl⟩
  · omega
  have hold : ∀ q, (Value.slice a0 acc.length cap0).ownBlock = some q → R + 1 ≤ q := fun q hq => (HC.out.own.lt q hq).1
  have hh := HC.out.high
  have HR6 : Hid (Row w6 R [.slice p5 r.length cp5, .slice a0 acc.length cap0, .int .i64 (k : Int)]) :=
    (HC.out.box.below ((Below.refl _ _).alloc (Nat.le_refl _) _)).far hgrow6 (fun e => by have := hold R e.symm; omega)
  have HB6 : Hid (ByA w6 p5 r) := (HC.out.bytes.below ((Below.refl _ _).alloc (Nat.le_refl _) _)).grown hgrow6 (fun a e e2 => by have := hold a.block e2.symm; have := HC.out.old a e; omega)
  have HO6 : Hid (w6.ownsRow (R + 1) 9 1 (.slice (some ⟨g, 0, none⟩) (acc.length + 1) cap6) (acc ++ [t]).length (strs (acc ++ [t]))) := by
    show World.ownsRow _ _ _ _ _ _ _
    rw [strs_append, List.length_append]
    exact hown6
  have HG : Hid (Below V.heap.size V w6) := by
    show Below V.heap.size V w6
    exact (HC.out.grown.alloc HC.out.grown.size _).grown hgrow6 (by have := HC.out.grown.size; simp; omega) (fun q hq => by have := hold q hq; omega)
  have d0 := HR6.out.cell 0 _ rfl
  have d1 := HR6.out.cell 1 _ rfl
  have d2 := HR6.out.cell 2 _ rfl
  have e1 := HR6.out.free 1
  have e2 := HR6.out.free 2
  have hle := HC.out.le
  have hnil := HC.out.nilc
  have hold5 := HC.out.old
  have HF : Hid (R + 1 ≤ g) := (hown6.lt g rfl).1
  clear hown6 hgrow6 hold HC c1 hR
  go_wp2_with fail
  generalize hw : w6.setCell ⟨R, 1, none⟩ (.slice (some ⟨g, 0, none⟩) (acc.length + 1) cap6) = w7
  have HR7 : Hid (Row w7 R [.slice p5 r.length cp5, .slice (some ⟨g, 0, none⟩) (acc.length + 1) cap6, .int .i64 (k : Int)]) := by
    subst hw
    exact HR6.out.set 1 (by simp) (.slice (some ⟨g, 0, none⟩) (acc.length + 1) cap6)
  have HB7 : Hid (ByA w7 p5 r) := by subst hw; exact HB6.out.far' R 1 _ (fun a e e2 => by have := hold5 a e; omega)
  have HO7 : Hid (w7.ownsRow (R + 1) 9 1 (.slice (some ⟨g, 0, none⟩) (acc.length + 1) cap6) (acc ++ [t]).length (strs (acc ++ [t]))) := by
    subst hw
    exact HO6.out.kept (Lib.grownBy_setCell w6 R 1 _) (.inr (fun e => by have := (HO6.out.lt R e).1; omega))
  have HG7 : Hid (Below V.heap.size V w7) := by subst hw; exact HG.out.setCell (p := ⟨R, 1, none⟩) hh _
  clear hw HR6 HB6 HO6 HG d0 d1 d2 e1 e2
  have d0 := HR7.out.cell 0 _ rfl
  have d2 := HR7.out.cell 2 _ rfl
  have e2 := HR7.out.free 2
  have hsub : IntKind.i64.wrap ((l.length : Int) - (r.length : Int)) = ((l.length - r.length : Nat) : Int) := by rw [IntKind.wrap_i64]; omega
  have hsum : IntKind.i64.wrap ((k : Int) + ((l.length - r.length : Nat) : Int)) = ((k + (l.length - r.length) : Nat) : Int) := by rw [IntKind.wrap_i64]; omega
  go_region
  go_end0
  have hcast : ((k : Int) + ((l.length - r.length : Nat) : Int)) = ((k + (l.length - r.length) : Nat) : Int) := by omega
  rw [hcast]
  refine ⟨rfl, p5, cp5, .slice (some ⟨g, 0, none⟩) (acc.length + 1) cap6, ?_⟩
  have hne : ∀ a, p5 = some a → a.block ≠ R := fun a e => by have := hold5 a e; omega
  have F : RS V (w7.setCell ⟨R, 2, none⟩ (.int .i64 ((k + (l.length - r.length) : Nat) : Int))) R r p5 cp5 (acc ++ [t]) (.slice (some ⟨g, 0, none⟩) (acc.length + 1) cap6) (k + (l.length - r.length)) :=
    ⟨HR7.out.set 2 (by simp) _, HB7.out.far' R 2 _ hne, hle, hnil, hold5, HO7.out.kept (Lib.grownBy_setCell w7 R 2 _) (.inr (fun e => by have := (HO7.out.lt R e).1; omega)), hh, HG7.out.setCell (p := ⟨R, 2, none⟩) hh _⟩
  exact F.below (drewN_low _ 1)

set_option maxHeartbeats 2000000 in
/-- There is no further record: the reader gives up. -/
theorem record_no (V W : World) (R : Nat) (l : List UInt8) (p : Option Addr) (c : Nat) (acc : List (List UInt8)) (v : Value) (k : Nat) (h : RS V W R l p c acc v k) (he : EnvJ V)
    (h1 : rec1 acc.length l = none) (hbig : l.length ≤ 1048576) :
    Calls Tryd.prog 62 #[.pointer (some ⟨R, 0, none⟩)] W fun e w' => Gave e ∧ RT V w' R acc v k := by
  have H : Hid (RS V W R l p c acc v k) := h
  have HE : Hid (EnvJ V) := he
  have c0 := h.box.cell 0 _ rfl
  have c1 := h.box.cell 1 _ rfl
  have hadd := add_blank acc.length
  have hform : ∃ a cap, v = .slice a acc.length cap := by
    rcases ownsRow_forms h.own with ⟨rfl, hn⟩ | ⟨g, cap, rfl⟩
    · exact ⟨none, 0, by rw [hn]⟩
    · exact ⟨_, _, rfl⟩
  obtain ⟨a0, cap0, rfl⟩ := hform
  have H1 : Hid (rec1 acc.length l = none) := h1
  clear h he h1
  go_enter Tryd.func62, Tryd.ntmps62
  go_wp2_with fail
  refine (implNumText_c _ _ (HE.out.1.on H.out.grown)).mono ?_
  rintro e w1 ⟨rfl, hb1⟩
  have HA : Hid (RS V w1 R l p c acc (.slice a0 acc.length cap0) k) := H.out.below hb1
  clear hb1 H c0 c1
  go_wp2_with fail
  cases hp : (hdL acc.length).isPrefixOf l
  · refine (skip_no w1 R p c l (hdL acc.length) _ k HA.out.box HA.out.bytes HA.out.le hp).mono ?_
    rintro e w2 ⟨⟨pv, rfl⟩, hb2⟩
    exact ⟨rfl, ⟨_, rfl⟩, (HA.out.below hb2).rt⟩
  · have hle : (hdL acc.length).length ≤ l.length := by
      obtain ⟨x, rfl⟩ := List.isPrefixOf_iff_prefix.1 hp
      simp
    refine (skip_yes w1 R p c l (hdL acc.length) _ k HA.out.box HA.out.bytes HA.out.le hp (hd_pos _)).mono ?_
    rintro e w2 ⟨rfl, w2', hb2, rfl⟩
    have h2 := (HA.out.below hb2).left (hdL acc.length).length hle
    generalize w2'.setCell ⟨R, 0, none⟩ (leftV p l.length c (hdL acc.length).length) = w3 at h2
    generalize (if c = (hdL acc.length).length then p else p.map (fun x => x.add (hdL acc.length).length)) = p2 at h2
    generalize c - (hdL acc.length).length = c2 at h2
    have HB : Hid (RS V w3 R (l.drop (hdL acc.length).length) p2 c2 acc (.slice a0 acc.length cap0) k) := h2
    have HN : Hid (Lib.indexByte (l.drop (hdL acc.length).length) 10 = -1 ∨ ∃ i : Nat, Lib.indexByte (l.drop (hdL acc.length).length) 10 = i ∧ recB ((l.drop (hdL acc.length).length).take i) = false) := by
      have h3 := H1.out
      unfold rec1 at h3
      rw [hp] at h3
      have hge := Lib.indexByte_ge (l.drop (hdL acc.length).length) 10
      by_cases h0 : 0 ≤ Lib.indexByte (l.drop (hdL acc.length).length) 10
      · right
        refine ⟨(Lib.indexByte (l.drop (hdL acc.length).length) 10).toNat, by omega, ?_⟩
        rw [decide_eq_true h0] at h3
        cases hr : recB ((l.drop (hdL acc.length).length).take (Lib.indexByte (l.drop (hdL acc.length).length) 10).toNat)
        · rfl
        · rw [hr] at h3; cases h3
      · left; omega
    have hlen2 : (l.drop (hdL acc.length).length).length ≤ 1048576 := by rw [List.length_drop]; omega
    generalize l.drop (hdL acc.length).length = l2 at HB HN hlen2
    clear h2 hb2 HA hadd hp hle
    go_wp2_with fail
    rcases HN.out with hx | ⟨i, hx, hr⟩
    · refine (text_none w3 R p2 c2 l2 _ k HB.out.box HB.out.bytes HB.out.le HB.out.nilc (HE.out.2.on HB.out.grown) hx hlen2).mono ?_
      rintro e w4 ⟨⟨pv, rfl⟩, hb4⟩
      exact ⟨rfl, ⟨_, rfl⟩, (HB.out.below hb4).rt⟩
    · refine (text_wrong w3 R p2 c2 i l2 _ k HB.out.box HB.out.bytes HB.out.le HB.out.nilc (HE.out.2.on HB.out.grown) hx hr hlen2).mono ?_
      rintro e w4 ⟨⟨pv, rfl⟩, hb4⟩
      exact ⟨rfl, ⟨_, rfl⟩, (HB.out.below hb4).rt⟩
end Go.Proofs.YtpdmhpcejmankaaDoor
