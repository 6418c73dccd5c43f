/- The specification's Reserve, where its copy of a room is one. -/
import Derived.Test.YtmpjebkjopfejaaGreatMzMvG
import Derived.Test.YtmpjebkjopfejaaGreatMgRo
import Derived.Test.YtmpjebkjopfejaaGreatMzTkE
import Derived.Test.YtmpjebkjopfejaaGreatMgRm
import Derived.Deep.RegionHeld3
namespace Go.Proofs.YtmpjebkjopfejaaGreat
open Go.ChangeShapes Go.WideShapes Go.ChangeAt Go.RowKit

/-- Where a walk is to stand still. -/
structure Stop (p : Prop) : Prop where
  out : p
theorem stop_load {P : Program} {ops : Array Oper} {Q : Exit → Act → World → Prop} {rest : List Oper} {a : Act} {w : World} {d : _} {x : _} {ty : _} {pos : _} {af : _} {gd : _}
    (h : Stop (wpList P ops Q ({ dst := d, op := .load 46 x, type := ty, pos := pos, after := af, guard := gd } :: rest) a w)) : wpList P ops Q ({ dst := d, op := .load 46 x, type := ty, pos := pos, after := af, guard := gd } :: rest) a w := h.out
set_option maxRecDepth 100000 in
set_option maxHeartbeats 8000000 in
theorem specReserve_h (hcopy : CopyC) (A : Ra) (R : Rm) (j : Jb) (f : Int) (x : Option Addr) (cx : Nat) (xs : List Int) (hs : RSmall R) (hx : xs.length ≤ 1048576) (hcx : xs.length ≤ cx) (w : World) (h : RAt w A R) (hxs : Sq w x (ints xs)) :
    Calls Tryz.prog 6 #[.agg #[.slice A.aP R.ps.length A.cP, .slice A.aN R.ns.length A.cN, .slice A.aU R.up.length A.cU, .slice A.aQ R.pss.length A.cQ, .slice A.aL R.lic.length A.cL], .agg #[.int .i64 j.id, .int .i64 j.pr, .int .i64 j.nd, .int .i64 j.na, .int .i64 j.nb, .int .i64 j.nc, .int .i64 j.la, .int .i64 j.lb, .int .i64 j.lc, .int .i64 j.wl, .int .i64 j.lv], .int .i64 f, .slice x xs.length cx] w (RetR w (mvR false R j f (wrap64 (f + j.wl)) xs)) := by
  generalize hu : wrap64 (f + j.wl) = u
  have H : Hid (RAt w A R) := h
  have HM : Hid (RSmall R) := hs
  have HXs : Hid (Sq w x (ints xs)) := hxs
  have HCp : Hid CopyC := hcopy
  clear h hs hxs hcopy
  go_enter Tryz.func6, Tryz.ntmps6
  go_wp2_with fail
  generalize hV : ((w.alloc (.cells #[.slice A.aP R.ps.length A.cP, .slice A.aN R.ns.length A.cN, .slice A.aU R.up.length A.cU, .slice A.aQ R.pss.length A.cQ, .slice A.aL R.lic.length A.cL] 46)).alloc (.cells #[.int .i64 j.id, .int .i64 j.pr, .int .i64 j.nd, .int .i64 j.na, .int .i64 j.nb, .int .i64 j.nc, .int .i64 j.la, .int .i64 j.lb, .int .i64 j.lc, .int .i64 j.wl, .int .i64 j.lv] 52)).alloc (.cells #[.slice none 0 0, .slice none 0 0, .slice none 0 0, .slice none 0 0, .slice none 0 0] 46) = V
  have HA : Hid (Row V w.heap.size [.slice A.aP R.ps.length A.cP, .slice A.aN R.ns.length A.cN, .slice A.aU R.up.length A.cU, .slice A.aQ R.pss.length A.cQ, .slice A.aL R.lic.length A.cL]) := by subst hV; exact ((row_fresh w [.slice A.aP R.ps.length A.cP, .slice A.aN R.ns.length A.cN, .slice A.aU R.up.length A.cU, .slice A.aQ R.pss.length A.cQ, .slice A.aL R.lic.length A.cL] 46).below (low_alloc _ _)).below (low_alloc _ _)
  have HJ : Hid (Row V (w.heap.size + 1) [.int .i64 j.id, .int .i64 j.pr, .int .i64 j.nd, .int .i64 j.na, .int .i64 j.nb, .int .i64 j.nc, .int .i64 j.la, .int .i64 j.lb, .int .i64 j.lc, .int .i64 j.wl, .int .i64 j.lv]) := by
    subst hV
    have h := row_fresh (w.alloc (.cells #[.slice A.aP R.ps.length A.cP, .slice A.aN R.ns.length A.cN, .slice A.aU R.up.length A.cU, .slice A.aQ R.pss.length A.cQ, .slice A.aL R.lic.length A.cL] 46)) [.int .i64 j.id, .int .i64 j.pr, .int .i64 j.nd, .int .i64 j.na, .int .i64 j.nb, .int .i64 j.nc, .int .i64 j.la, .int .i64 j.lb, .int .i64 j.lc, .int .i64 j.wl, .int .i64 j.lv] 52
    rw [show (w.alloc (.cells #[.slice A.aP R.ps.length A.cP, .slice A.aN R.ns.length A.cN, .slice A.aU R.up.length A.cU, .slice A.aQ R.pss.length A.cQ, .slice A.aL R.lic.length A.cL] 46)).heap.size = w.heap.size + 1 by simp [go_sem]] at h
    exact h.below (low_alloc _ _)
  have HZ : Hid (Row V (w.heap.size + 1 + 1) [.slice none 0 0, .slice none 0 0, .slice none 0 0, .slice none 0 0, .slice none 0 0]) := by
    subst hV
    have h := row_fresh ((w.alloc (.cells #[.slice A.aP R.ps.length A.cP, .slice A.aN R.ns.length A.cN, .slice A.aU R.up.length A.cU, .slice A.aQ R.pss.length A.cQ, .slice A.aL R.lic.length A.cL] 46)).alloc (.cells #[.int .i64 j.id, .int .i64 j.pr, .int .i64 j.nd, .int .i64 j.na, .int .i64 j.nb, .int .i64 j.nc, .int .i64 j.la, .int .i64 j.lb, .int .i64 j.lc, .int .i64 j.wl, .int .i64 j.lv] 52)) [.slice none 0 0, .slice none 0 0, .slice none 0 0, .slice none 0 0, .slice none 0 0] 46
    rw [show ((w.alloc (.cells #[.slice A.aP R.ps.length A.cP, .slice A.aN R.ns.length A.cN, .slice A.aU R.up.length A.cU, .slice A.aQ R.pss.length A.cQ, .slice A.aL R.lic.length A.cL] 46)).alloc (.cells #[.int .i64 j.id, .int .i64 j.pr, .int .i64 j.nd, .int .i64 j.na, .int .i64 j.nb, .int .i64 j.nc, .int .i64 j.la, .int .i64 j.lb, .int .i64 j.lc, .int .i64 j.wl, .int .i64 j.lv] 52)).heap.size = w.heap.size + 1 + 1 by simp [go_sem]] at h
    exact h
  have BV : Hid (Below w.heap.size w V) := by subst hV; exact behind_alloc (behind_alloc (low_alloc _ _) _) _
  clear hV
  have hZV : w.heap.size + 1 + 1 < V.heap.size := HZ.out.lt
  refine (l04Diff_c A R j x cx xs HM.out hx hcx _ (H.out.below BV.out) (HXs.out.below BV.out)).mono ?_
  rintro e w1 ⟨k, rfl, hk, hb⟩
  have B1 : Hid (Below V.heap.size V w1) := hb
  have HK : Hid (k = true ↔ MvOk R j xs) := hk
  clear hb hk
  have z0 := (HZ.out.below B1.out).cell 0 _ rfl
  have f0 := (HZ.out.below B1.out).free 0
  have z1 := (HZ.out.below B1.out).cell 1 _ rfl
  have f1 := (HZ.out.below B1.out).free 1
  have z2 := (HZ.out.below B1.out).cell 2 _ rfl
  have f2 := (HZ.out.below B1.out).free 2
  have z3 := (HZ.out.below B1.out).cell 3 _ rfl
  have f3 := (HZ.out.below B1.out).free 3
  have z4 := (HZ.out.below B1.out).cell 4 _ rfl
  have f4 := (HZ.out.below B1.out).free 4
  cases k
  · have HN : Hid (mvR false R j f u xs = none) := mvR_no (fun t => by have := HK.out.2 t; cases this)
    clear HK
    have B8 := below_then BV.out B1.out
    go_wp2_with fail
    exact bodyPost_ret (v := .tuple #[.agg #[.slice none 0 0, .slice none 0 0, .slice none 0 0, .slice none 0 0, .slice none 0 0], .bool false]) (by simp [results, Tryz.results6, go_sem, *]) rfl (retR_no HN.out rfl (below_setL (show w.heap.size ≤ w.heap.size + 1 + 1 by omega) [.slice none 0 0, .slice none 0 0, .slice none 0 0, .slice none 0 0, .slice none 0 0] 0 B8))
  have HOk : Hid (MvOk R j xs) := HK.out.1 rfl
  clear HK
  go_wp2_with fail
  refine (l01Time_c f _).mono ?_
  rintro e w2 ⟨rfl, rfl⟩
  cases htm : timeB f
  · have HN : Hid (mvR false R j f u xs = none) := mvR_lic HOk.out (by
      cases hk : tkR false j.lic R.lic f u with
      | none => rfl
      | some L =>
        have h1 := (tk_some hk).2.1
        unfold spanB at h1
        rw [htm] at h1
        cases h1)
    clear htm
    have B8 := below_then BV.out B1.out
    go_wp2_with fail
    exact bodyPost_ret (v := .tuple #[.agg #[.slice none 0 0, .slice none 0 0, .slice none 0 0, .slice none 0 0, .slice none 0 0], .bool false]) (by simp [results, Tryz.results6, go_sem, *]) rfl (retR_no HN.out rfl (below_setL (show w.heap.size ≤ w.heap.size + 1 + 1 by omega) [.slice none 0 0, .slice none 0 0, .slice none 0 0, .slice none 0 0, .slice none 0 0] 0 B8))
  have hf := time_iff.1 htm
  have hwl : 1 ≤ j.wl ∧ j.wl ≤ 1000000 := by
    have hj := HOk.out.job
    simp only [jobB, Bool.and_eq_true] at hj
    exact btw_iff.1 hj.2.2.2.2.2.1
  obtain ⟨hf0, hf1⟩ := hf
  obtain ⟨hw0, hw1⟩ := hwl
  have hu2 : u = f + j.wl := by
    rw [← hu]
    unfold wrap64
    omega
  clear hu
  subst hu2
  have HWr : Hid (IntKind.i64.wrap (f + j.wl) = f + j.wl) := by
    show _ = _
    simp [IntKind.wrap, IntKind.bits, IntKind.signed]
    omega
  clear htm z0 z1 z2 z3 z4 f0 f1 f2 f3 f4
  have a0 := (HA.out.below B1.out).cell 0 _ rfl
  have a1 := (HA.out.below B1.out).cell 1 _ rfl
  have a2 := (HA.out.below B1.out).cell 2 _ rfl
  have a3 := (HA.out.below B1.out).cell 3 _ rfl
  have a4 := (HA.out.below B1.out).cell 4 _ rfl
  go_wp2_with fail
  clear a0 a1 a2 a3 a4
  refine (HCp.out A R HM.out HOk.out.room HOk.out.nodes _ ((H.out.below BV.out).below B1.out)).mono ?_
  rintro e w7 ⟨K, rfl, hst, hrx, hb⟩
  have B7 : Hid (Below V.heap.size V w7) := below_then B1.out hb
  have M8 : Hid (CpM V (w7.alloc (.cells #[.slice (some ⟨K.gP, 0, none⟩) R.ps.length K.cP, .slice (some ⟨K.gN, 0, none⟩) R.ns.length K.cN, .slice (some ⟨K.gU, 0, none⟩) R.up.length K.cU, .slice (some ⟨K.gQ, 0, none⟩) R.pss.length K.cQ, .slice (some ⟨K.gL, 0, none⟩) R.lic.length K.cL] 46)) R K w7.heap.size) :=
    ⟨row_fresh w7 _ 46, hst.wide B1.out.size (by simp [go_sem]), hrx.below (low_alloc _ _), behind_alloc B7.out _, B7.out.size, fun hm => by have := hst.rng _ hm; omega⟩
  clear hst hrx hb
  go_wp2_with fail
  generalize w7.alloc (.cells #[.slice (some ⟨K.gP, 0, none⟩) R.ps.length K.cP, .slice (some ⟨K.gN, 0, none⟩) R.ns.length K.cN, .slice (some ⟨K.gU, 0, none⟩) R.up.length K.cU, .slice (some ⟨K.gQ, 0, none⟩) R.pss.length K.cQ, .slice (some ⟨K.gL, 0, none⟩) R.lic.length K.cL] 46) = w8 at M8 ⊢
  generalize w7.heap.size = Q0 at M8 ⊢
  clear B7 B1
  go_loopw [32] (fun i wr => ∃ (m : Nat) (cur : List (List Nd)) (K' : RK), m ≤ xs.length ∧ i = .int .i64 m ∧ CpM V wr { R with pss := cur } K' Q0 ∧ cur.length = R.pss.length ∧ mvP false j.need f (f + j.wl) R.pss xs = mvP false j.need f (f + j.wl) cur (xs.drop m)) (fun i _ => xs.length - (intOf i).toNat)
  case atStart => exact ⟨0, R.pss, _, Nat.zero_le _, rfl, M8.out, rfl, rfl⟩
  case round =>
    obtain ⟨m, cur, K', hm, rfl, hcp, hcl, hmv⟩ := hrel
    have HC : Hid (CpM V wr { R with pss := cur } K' Q0) := hcp
    have HCl : Hid (cur.length = R.pss.length) := by show _ = _; exact hcl
    have HMv : Hid (mvP false j.need f (f + j.wl) R.pss xs = mvP false j.need f (f + j.wl) cur (xs.drop m)) := by show _ = _; exact hmv
    clear hcp hcl hmv M8
    by_cases hlt : m < xs.length
    · have hm0 : (0 : Int) ≤ (m : Int) := by omega
      have hm1 : (m : Int) < (xs.length : Int) := by omega
      obtain ⟨px, rfl, _, cx0⟩ := (((HXs.out.below BV.out).below HC.out.low)).cell m _ (ints_at xs m hlt)
      have HXm : Hid (xs[m]? = some xs[m]) := List.getElem?_eq_getElem hlt
      have hnd := HOk.out.there xs[m] (List.getElem_mem hlt)
      unfold isNd at hnd
      have hpl := HOk.out.room.profs
      obtain ⟨t, ht⟩ : ∃ t : Nat, xs[m] = t := ⟨xs[m].toNat, by omega⟩
      rw [ht] at cx0 HXm hnd
      clear ht
      have ht0 : (0 : Int) ≤ (t : Int) := by omega
      have ht2 : (t : Int) < (cur.length : Int) := by have := HCl.out; omega
      have htl : t < cur.length := by omega
      clear hpl
      have HD : Hid (xs.drop m = (t : Int) :: xs.drop (m + 1)) := by
        show _ = _
        rw [List.drop_eq_getElem_cons hlt]
        congr 1
        have := HXm.out
        rw [List.getElem?_eq_getElem hlt] at this
        exact Option.some.inj this
      have HEt : Hid (cur[t]? = some cur[t]) := List.getElem?_eq_getElem htl
      have HGet : Hid (cur.getD (t : Int).toNat [] = cur[t]) := by
        show _ = _
        rw [Int.toNat_natCast, List.getD_eq_getElem?_getD, HEt.out]
        rfl
      generalize cur[t] = ns at HEt HGet
      have hh := HC.out.st.hh
      dsimp only at hh
      have hth : t < K'.hs.length := by omega
      obtain ⟨ct, hct⟩ := HC.out.st.tqs t K'.hs[t] ns (List.getElem?_eq_getElem hth) HEt.out
      have HRn : Hid (Row wr K'.hs[t] (flat ns)) := HC.out.rx.each t _ ns (List.getElem?_eq_getElem hth) HEt.out
      generalize K'.hs[t] = hT at hct HRn
      have HQr : Hid (Row wr K'.gQ K'.tq) := HC.out.rx.rQ
      have HTq : Hid (K'.tq[t]? = some (.slice (some ⟨hT, 0, none⟩) ns.length ct)) := hct
      clear hct hh hth
      have HJw : Hid (Row wr (w.heap.size + 1) [.int .i64 j.id, .int .i64 j.pr, .int .i64 j.nd, .int .i64 j.na, .int .i64 j.nb, .int .i64 j.nc, .int .i64 j.la, .int .i64 j.lb, .int .i64 j.lc, .int .i64 j.wl, .int .i64 j.lv]) := HJ.out.below HC.out.low
      have hUV : V.heap.size ≤ wr.heap.size := HC.out.low.size
      obtain ⟨r, hr⟩ : ∃ r, (tkR false j.need ns f (f + j.wl)).getD [] = r := ⟨_, rfl⟩
      obtain ⟨k, hk⟩ : ∃ k, (tkR false j.need ns f (f + j.wl)).isSome = k := ⟨_, rfl⟩
      have HCS : Hid (∀ W : World, Sq W (some ⟨hT, 0, none⟩) (flat ns) → Calls Tryz.prog 25 #[.agg #[.slice (some ⟨hT, 0, none⟩) ns.length ct], .int .i64 f, .int .i64 (f + j.wl), .agg #[.int .i64 j.na, .int .i64 j.nb, .int .i64 j.nc]] W (RetP W r k)) := fun W hW => by
        have h := specProfTake_c (some ⟨hT, 0, none⟩) ct ns f (f + j.wl) j.need W hW
        rw [hr, hk] at h
        exact h
      have Hr : Hid ((tkR false j.need ns f (f + j.wl)).getD [] = r) := hr
      have Hk : Hid ((tkR false j.need ns f (f + j.wl)).isSome = k) := hk
      clear hr hk
      have HK : Hid (∀ W : World, Below wr.heap.size wr W → Below wr.heap.size wr W ∧ wr.heap.size ≤ W.heap.size ∧ W.cell? ⟨Q0, 3, none⟩ = some (.slice (some ⟨K'.gQ, 0, none⟩) cur.length K'.cQ) ∧ W.cell? ⟨K'.gQ, t, none⟩ = some (.slice (some ⟨hT, 0, none⟩) ns.length ct) ∧ W.cell? ⟨w.heap.size + 1, 9, none⟩ = some (.int .i64 j.wl) ∧ W.cell? ⟨w.heap.size + 1, 3, none⟩ = some (.int .i64 j.na) ∧ W.cell? ⟨w.heap.size + 1, 4, none⟩ = some (.int .i64 j.nb) ∧ W.cell? ⟨w.heap.size + 1, 5, none⟩ = some (.int .i64 j.nc)) := fun W h => ⟨h, h.size, (HC.out.box.below h).cell 3 _ rfl, (HQr.out.below h).cell t _ HTq.out, (HJw.out.below h).cell 9 _ rfl, (HJw.out.below h).cell 3 _ rfl, (HJw.out.below h).cell 4 _ rfl, (HJw.out.below h).cell 5 _ rfl⟩
      have D1 : Hid (Below wr.heap.size wr wr.drew) := low_drew wr
      have z1 : wr.heap.size ≤ wr.heap.size := Nat.le_refl _
      have z2 : wr.heap.size ≤ wr.drew.heap.size := Nat.le_refl _
      go_wp2_with fail
      go_cut [13, 14] (fun p q wc => ∃ (Z : Nat) (a : Option Addr) (c : Nat), p = .pointer (some ⟨Z, 0, none⟩) ∧ q = .bool k ∧ Boxd wr wc Z a c r)
      case first =>
        go_region_held3 (fun W => Below wr.heap.size wr W ∧ wr.heap.size ≤ W.heap.size ∧ W.cell? ⟨Q0, 3, none⟩ = some (.slice (some ⟨K'.gQ, 0, none⟩) cur.length K'.cQ) ∧ W.cell? ⟨K'.gQ, t, none⟩ = some (.slice (some ⟨hT, 0, none⟩) ns.length ct) ∧ W.cell? ⟨w.heap.size + 1, 9, none⟩ = some (.int .i64 j.wl) ∧ W.cell? ⟨w.heap.size + 1, 3, none⟩ = some (.int .i64 j.na) ∧ W.cell? ⟨w.heap.size + 1, 4, none⟩ = some (.int .i64 j.nb) ∧ W.cell? ⟨w.heap.size + 1, 5, none⟩ = some (.int .i64 j.nc)) ((go_split_ands; refine HK.out _ ?_; first | (exact Hid.out (by with_reducible assumption)) | (exact behind_alloc (Hid.out (by with_reducible assumption)) _) | (with_reducible assumption) | (exact behind (by with_reducible assumption) (by with_reducible assumption)) | (exact behind_alloc (by with_reducible assumption) _) | (repeat (refine Below.setCell ?_ (by with_reducible assumption) _)); (exact Hid.out (by with_reducible assumption)) | (go_grown; done)))
          (first
          | (go_at_call 25; rw [HWr.out]; refine (HCS.out _ ((Sq.of_row HRn.out).below (And.left (by with_reducible assumption)))).mono ?_; rintro e wk ⟨v0, rfl, hans, hbk⟩; obtain ⟨a0', c0', hv0, _⟩ := hans.form; subst hv0;
              have Bk : Hid (Below wr.heap.size wr wk) := behind hbk (And.left (by with_reducible assumption));
              (try have FB : Hid (Boxd wr (wk.setCell ⟨_, 0, none⟩ (.slice a0' r.length c0')) _ a0' c0' r) := fin_box (row_fresh _ [.slice none 0 0] 44) hans hbk Bk.out (by first | exact Nat.le_refl _ | omega | (simp [go_sem]; omega)));
              (try have FB : Hid (Boxd wr (wk.setCell ⟨_, 0, none⟩ (.slice a0' r.length c0')) _ a0' c0' r) := fin_box ((row_fresh _ [.slice none 0 0] 44).below (low_drew _)) hans hbk Bk.out (by first | exact Nat.le_refl _ | omega | (simp [go_sem]; omega)));
              have FN : Hid (Boxd wr (wk.alloc (.cells #[.slice a0' r.length c0'] 44)) wk.heap.size a0' c0' r) := fin_new hans (by first | exact Nat.le_refl _ | omega | (simp [go_sem]; omega)) Bk.out; clear hans;
              (first | have C := behind hbk (by with_reducible assumption) | have C := hbk); obtain ⟨hck, hfk, hzk⟩ := bfacts C))
        all_goals
          go_split_ands
          go_wp2_with fail
          go_meet
          case rel =>
            first
              | exact ⟨_, _, _, rfl, rfl, FB.out⟩
              | exact ⟨wr.heap.size, a0', c0', rfl, rfl, FB.out⟩
              | exact ⟨_, _, _, rfl, rfl, FN.out⟩
      case rest =>
      obtain ⟨Z, a0, c0, rfl, rfl, hZ, hP, hB, hUZ, _⟩ := hcut
      have Bc : Hid (Below wr.heap.size wr wc) := hB
      have XZ : Hid (Row wc Z [.slice a0 r.length c0]) := hZ
      have PC : Hid (AnsP wr.heap.size wc.heap.size wc r.length (flat r) (.slice a0 r.length c0)) := hP
      clear hZ hP hB D1 z1 z2 HK HCS
      have BVc : Hid (Below V.heap.size V wc) := below_then HC.out.low Bc.out
      cases htk : tkR false j.need ns f (f + j.wl) with
      | none =>
        have hkf : k = false := by have := Hk.out; rw [htk] at this; exact this.symm
        subst hkf
        have HN : Hid (mvR false R j f (f + j.wl) xs = none) := mvR_pss (by rw [HMv.out, HD.out]; exact mvP_none (by rw [HGet.out]; exact htk))
        clear htk
        have z0 := (HZ.out.below BVc.out).cell 0 _ rfl
        have f0 := (HZ.out.below BVc.out).free 0
        have z1 := (HZ.out.below BVc.out).cell 1 _ rfl
        have f1 := (HZ.out.below BVc.out).free 1
        have z2 := (HZ.out.below BVc.out).cell 2 _ rfl
        have f2 := (HZ.out.below BVc.out).free 2
        have z3 := (HZ.out.below BVc.out).cell 3 _ rfl
        have f3 := (HZ.out.below BVc.out).free 3
        have z4 := (HZ.out.below BVc.out).cell 4 _ rfl
        have f4 := (HZ.out.below BVc.out).free 4
        have B8 := below_then BV.out BVc.out
        go_wp2_with fail
        exact bodyPost_ret (v := .tuple #[.agg #[.slice none 0 0, .slice none 0 0, .slice none 0 0, .slice none 0 0, .slice none 0 0], .bool false]) (by simp [results, Tryz.results6, go_sem, *]) rfl (retR_no HN.out rfl (below_setL (show w.heap.size ≤ w.heap.size + 1 + 1 by omega) [.slice none 0 0, .slice none 0 0, .slice none 0 0, .slice none 0 0, .slice none 0 0] 0 B8))
      | some y =>
        have hkt : k = true := by have := Hk.out; rw [htk] at this; exact this.symm
        have hry : r = y := by have := Hr.out; rw [htk] at this; exact this.symm
        subst hkt hry
        have hy : 0 < r.length := (tk_some htk).2.2.2.one
        obtain ⟨g, hgr, hg1, rfl⟩ : ∃ g, Row wc g (flat r) ∧ wr.heap.size ≤ g ∧ a0 = some ⟨g, 0, none⟩ := by
          obtain ⟨_, a', c', hv', h0⟩ := PC.out
          cases hv'
          rcases h0 with h0 | ⟨g, rfl, h1, _, h3⟩
          · omega
          · exact ⟨g, h3, h1, rfl⟩
        have NX : Hid (CpM V (wc.setCell ⟨K'.gQ, t, none⟩ (.slice (some ⟨g, 0, none⟩) r.length c0)) { R with pss := cur.set t r } { K' with hs := K'.hs.set t g, tq := K'.tq.set t (.slice (some ⟨g, 0, none⟩) r.length c0) } Q0) := HC.out.put Bc.out (n := t) (c := c0) (by show t < cur.length; omega) hgr hg1
        have NM : Hid (mvP false j.need f (f + j.wl) R.pss xs = mvP false j.need f (f + j.wl) (cur.set t r) (xs.drop (m + 1))) := by
          show _ = _
          rw [HMv.out, HD.out, mvP_some (x := r) (by rw [HGet.out]; exact htk), Int.toNat_natCast]
        have NL : Hid ((cur.set t r).length = R.pss.length) := by show _ = _; rw [List.length_set]; exact HCl.out
        have b3 : wc.cell? ⟨Q0, 3, none⟩ = some (.slice (some ⟨K'.gQ, 0, none⟩) cur.length K'.cQ) := (HC.out.box.below Bc.out).cell 3 _ rfl
        have bz := XZ.out.cell 0 _ rfl
        have ct0 := (HQr.out.below Bc.out).cell t _ HTq.out
        have ft0 := (HQr.out.below Bc.out).free t
        clear htk hgr
        go_wp2_with fail
        exact ⟨⟨m + 1, cur.set t r, _, by omega, by go_num, NX.out, NL.out, NM.out⟩, by simp [intOf]; omega⟩
    · have hme : m = xs.length := by omega
      have HQf : Hid (mvP false j.need f (f + j.wl) R.pss xs = some cur) := by
        show _ = _
        rw [HMv.out, hme, List.drop_length]
        rfl
      clear hme
      have HJw : Hid (Row wr (w.heap.size + 1) [.int .i64 j.id, .int .i64 j.pr, .int .i64 j.nd, .int .i64 j.na, .int .i64 j.nb, .int .i64 j.nc, .int .i64 j.la, .int .i64 j.lb, .int .i64 j.lc, .int .i64 j.wl, .int .i64 j.lv]) := HJ.out.below HC.out.low
      have HRl : Hid (Row wr K'.gL (flat R.lic)) := HC.out.rx.rL
      obtain ⟨r, hr⟩ : ∃ r, (tkR false j.lic R.lic f (f + j.wl)).getD [] = r := ⟨_, rfl⟩
      obtain ⟨k, hk⟩ : ∃ k, (tkR false j.lic R.lic f (f + j.wl)).isSome = k := ⟨_, rfl⟩
      have HCS : Hid (∀ W : World, Sq W (some ⟨K'.gL, 0, none⟩) (flat R.lic) → Calls Tryz.prog 25 #[.agg #[.slice (some ⟨K'.gL, 0, none⟩) R.lic.length K'.cL], .int .i64 f, .int .i64 (f + j.wl), .agg #[.int .i64 j.la, .int .i64 j.lb, .int .i64 j.lc]] W (RetP W r k)) := fun W hW => by
        have h := specProfTake_c (some ⟨K'.gL, 0, none⟩) K'.cL R.lic f (f + j.wl) j.lic W hW
        rw [hr, hk] at h
        exact h
      have Hr : Hid ((tkR false j.lic R.lic f (f + j.wl)).getD [] = r) := hr
      have Hk : Hid ((tkR false j.lic R.lic f (f + j.wl)).isSome = k) := hk
      clear hr hk
      have q4 : wr.cell? ⟨Q0, 4, none⟩ = some (.slice (some ⟨K'.gL, 0, none⟩) R.lic.length K'.cL) := HC.out.box.cell 4 _ rfl
      have y6 := HJw.out.cell 6 _ rfl
      have y7 := HJw.out.cell 7 _ rfl
      have y8 := HJw.out.cell 8 _ rfl
      have y9 := HJw.out.cell 9 _ rfl
      go_wp2_with fail
      clear q4 y6 y7 y8 y9
      refine (HCS.out wr (Sq.of_row HRl.out)).mono ?_
      rintro e wk ⟨v0, rfl, hans, hb⟩
      obtain ⟨a0, c0, hv0, _⟩ := hans.form
      subst hv0
      have Bc : Hid (Below wr.heap.size wr wk) := hb
      have BVc : Hid (Below V.heap.size V wk) := below_then HC.out.low hb
      have PC : Hid (AnsP wr.heap.size wk.heap.size wk r.length (flat r) (.slice a0 r.length c0)) := hans
      clear hans hb
      have hZk : w.heap.size + 1 + 1 < wk.heap.size := (HZ.out.below BVc.out).lt
      have hZn : w.heap.size + 1 + 1 ≠ wk.heap.size := by omega
      have z0 := (HZ.out.below BVc.out).cell 0 _ rfl
      have f0 := (HZ.out.below BVc.out).free 0
      have z1 := (HZ.out.below BVc.out).cell 1 _ rfl
      have f1 := (HZ.out.below BVc.out).free 1
      have z2 := (HZ.out.below BVc.out).cell 2 _ rfl
      have f2 := (HZ.out.below BVc.out).free 2
      have z3 := (HZ.out.below BVc.out).cell 3 _ rfl
      have f3 := (HZ.out.below BVc.out).free 3
      have z4 := (HZ.out.below BVc.out).cell 4 _ rfl
      have f4 := (HZ.out.below BVc.out).free 4
      cases htk : tkR false j.lic R.lic f (f + j.wl) with
      | none =>
        have hkf : k = false := by have := Hk.out; rw [htk] at this; exact this.symm
        subst hkf
        have HN : Hid (mvR false R j f (f + j.wl) xs = none) := mvR_lic HOk.out htk
        clear htk
        have B8 := below_then BV.out BVc.out
        go_wp2_with fail
        exact bodyPost_ret (v := .tuple #[.agg #[.slice none 0 0, .slice none 0 0, .slice none 0 0, .slice none 0 0, .slice none 0 0], .bool false]) (by simp [results, Tryz.results6, go_sem, *]) rfl (retR_no HN.out rfl (behind_alloc (below_setL (show w.heap.size ≤ w.heap.size + 1 + 1 by omega) [.slice none 0 0, .slice none 0 0, .slice none 0 0, .slice none 0 0, .slice none 0 0] 0 B8) _))
      | some L =>
        have hkt : k = true := by have := Hk.out; rw [htk] at this; exact this.symm
        have hry : r = L := by have := Hr.out; rw [htk] at this; exact this.symm
        subst hkt hry
        have hy : 0 < r.length := (tk_some htk).2.2.2.one
        obtain ⟨g, hgr, hg1, rfl⟩ : ∃ g, Row wk g (flat r) ∧ wr.heap.size ≤ g ∧ a0 = some ⟨g, 0, none⟩ := by
          obtain ⟨_, a', c', hv', h0⟩ := PC.out
          cases hv'
          rcases h0 with h0 | ⟨g, rfl, h1, _, h3⟩
          · omega
          · exact ⟨g, h3, h1, rfl⟩
        have HYes : Hid (mvR false R j f (f + j.wl) xs = some { R with lic := r, pss := cur }) := mvR_yes HOk.out htk HQf.out
        have NX : Hid (CpM V ((wk.setCell ⟨Q0, 4, none⟩ (.slice (some ⟨g, 0, none⟩) r.length c0)).alloc (.cells #[.slice (some ⟨g, 0, none⟩) r.length c0] 44)) { R with lic := r, pss := cur } { K' with gL := g, cL := c0 } Q0) := (HC.out.lics Bc.out hgr hg1).below (low_alloc _ _)
        clear htk hgr PC HQf z0 z1 z2 z3 z4 f0 f1 f2 f3 f4
        have q4 := (HC.out.box.below Bc.out).cell 4 _ rfl
        dsimp only at q4
        have fq := (HC.out.box.below Bc.out).free 4
        have hQk : Q0 < wk.heap.size := (HC.out.box.below Bc.out).lt
        have hQn : Q0 ≠ wk.heap.size := by omega
        go_wp2_with (refine stop_load ?_)
        clear q4 fq
        generalize (wk.setCell ⟨Q0, 4, none⟩ (.slice (some ⟨g, 0, none⟩) r.length c0)).alloc (.cells #[.slice (some ⟨g, 0, none⟩) r.length c0] 44) = w9 at NX ⊢
        refine ⟨?_⟩
        have z0 := (HZ.out.below NX.out.low).cell 0 _ rfl
        have f0 := (HZ.out.below NX.out.low).free 0
        have q0 := NX.out.box.cell 0 _ rfl
        have z1 := (HZ.out.below NX.out.low).cell 1 _ rfl
        have f1 := (HZ.out.below NX.out.low).free 1
        have q1 := NX.out.box.cell 1 _ rfl
        have z2 := (HZ.out.below NX.out.low).cell 2 _ rfl
        have f2 := (HZ.out.below NX.out.low).free 2
        have q2 := NX.out.box.cell 2 _ rfl
        have z3 := (HZ.out.below NX.out.low).cell 3 _ rfl
        have f3 := (HZ.out.below NX.out.low).free 3
        have q3 := NX.out.box.cell 3 _ rfl
        have z4 := (HZ.out.below NX.out.low).cell 4 _ rfl
        have f4 := (HZ.out.below NX.out.low).free 4
        have q4 := NX.out.box.cell 4 _ rfl
        dsimp only at q0 q1 q2 q3 q4
        have B8 := below_then BV.out NX.out.low
        go_wp2_with fail
        have far : ∀ {b : Nat} {ys : List Value}, Row w9 b ys → V.heap.size ≤ b → Row (setL w9 (w.heap.size + 1 + 1) 0 [.slice (some ⟨K'.gP, 0, none⟩) R.ps.length K'.cP, .slice (some ⟨K'.gN, 0, none⟩) R.ns.length K'.cN, .slice (some ⟨K'.gU, 0, none⟩) R.up.length K'.cU, .slice (some ⟨K'.gQ, 0, none⟩) cur.length K'.cQ, .slice (some ⟨g, 0, none⟩) r.length c0]) b ys := fun hr hb => ((((hr.apart (w.heap.size + 1 + 1) 0 _ (by omega)).apart (w.heap.size + 1 + 1) 1 _ (by omega)).apart (w.heap.size + 1 + 1) 2 _ (by omega)).apart (w.heap.size + 1 + 1) 3 _ (by omega)).apart (w.heap.size + 1 + 1) 4 _ (by omega)
        have hrg := NX.out.st.rng
        have hrx := NX.out.rx
        have hBl : Below w.heap.size w (setL w9 (w.heap.size + 1 + 1) 0 [.slice (some ⟨K'.gP, 0, none⟩) R.ps.length K'.cP, .slice (some ⟨K'.gN, 0, none⟩) R.ns.length K'.cN, .slice (some ⟨K'.gU, 0, none⟩) R.up.length K'.cU, .slice (some ⟨K'.gQ, 0, none⟩) cur.length K'.cQ, .slice (some ⟨g, 0, none⟩) r.length c0]) := below_setL (by omega) _ _ B8
        have hsz : (setL w9 (w.heap.size + 1 + 1) 0 [.slice (some ⟨K'.gP, 0, none⟩) R.ps.length K'.cP, .slice (some ⟨K'.gN, 0, none⟩) R.ns.length K'.cN, .slice (some ⟨K'.gU, 0, none⟩) R.up.length K'.cU, .slice (some ⟨K'.gQ, 0, none⟩) cur.length K'.cQ, .slice (some ⟨g, 0, none⟩) r.length c0]).heap.size = w9.heap.size := by simp only [setL, World.size_setCell]
        have hst : RStat { R with lic := r, pss := cur } { K' with gL := g, cL := c0 } w.heap.size w9.heap.size := NX.out.st.wide BV.out.size (Nat.le_refl _)
        rw [← hsz] at hst
        exact bodyPost_ret (v := .tuple #[.agg #[.slice (some ⟨K'.gP, 0, none⟩) R.ps.length K'.cP, .slice (some ⟨K'.gN, 0, none⟩) R.ns.length K'.cN, .slice (some ⟨K'.gU, 0, none⟩) R.up.length K'.cU, .slice (some ⟨K'.gQ, 0, none⟩) cur.length K'.cQ, .slice (some ⟨g, 0, none⟩) r.length c0], .bool true]) (by simp [results, Tryz.results6, go_sem, *]) rfl (retR_yes HYes.out { K' with gL := g, cL := c0 } rfl hst ⟨far hrx.rP (hrg _ (by simp [RK.blocks])).1, far hrx.rN (hrg _ (by simp [RK.blocks])).1, far hrx.rU (hrg _ (by simp [RK.blocks])).1, far hrx.rQ (hrg _ (by simp [RK.blocks])).1, fun i h ns h1 h2 => far (hrx.each i h ns h1 h2) (hrg _ (mem_bl h1)).1, far hrx.rL (hrg _ (by simp [RK.blocks])).1⟩ hBl)
end Go.Proofs.YtmpjebkjopfejaaGreat
