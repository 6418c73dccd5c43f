/- The program's Reserve. -/
import Derived.Test.YtmpjebkjopfejaaGreatMzMvG
import Derived.Test.YtmpjebkjopfejaaGreatMzTkI
import Derived.Test.YtmpjebkjopfejaaGreatMgRm
namespace Go.Proofs.YtmpjebkjopfejaaGreat
open Go.ChangeShapes Go.WideShapes Go.ChangeAt Go.RowKit

set_option maxRecDepth 100000 in
set_option maxHeartbeats 8000000 in
theorem move_false (V : World) (R : Rm) (K : RK) (Q0 : Nat) (j : Jb) (f u : Int) (x : Option Addr) (cx : Nat) (xs : List Int) (hth : ∀ x ∈ xs, isNd R.ns x) (hpl : R.pss.length = R.ns.length) (hx : xs.length ≤ 1048576) (w : World) (hc : CpM V w R K Q0) (hxs : Sq V x (ints xs)) :
    Calls Tryz.prog 62 #[.pointer (some ⟨Q0, 0, none⟩), .agg #[.int .i64 j.id, .int .i64 j.pr, .int .i64 j.nd, .int .i64 j.na, .int .i64 j.nb, .int .i64 j.nc, .int .i64 j.la, .int .i64 j.lb, .int .i64 j.lc, .int .i64 j.wl, .int .i64 j.lv], .int .i64 f, .int .i64 u, .slice x xs.length cx, .func (.func 32) #[] #[]] w (RetM V false R j f u xs Q0) := by
  have HC0 : Hid (CpM V w R K Q0) := hc
  have HXs : Hid (Sq V x (ints xs)) := hxs
  have HTh : Hid (∀ x ∈ xs, isNd R.ns x) := hth
  have HPl : Hid (R.pss.length = R.ns.length) := by show _ = _; exact hpl
  clear hc hxs hth hpl
  go_enter Tryz.func62, Tryz.ntmps62
  go_wp2_with fail
  generalize hU : w.alloc (.cells #[.int .i64 j.id, .int .i64 j.pr, .int .i64 j.nd, .int .i64 j.na, .int .i64 j.nb, .int .i64 j.nc, .int .i64 j.la, .int .i64 j.lb, .int .i64 j.lc, .int .i64 j.wl, .int .i64 j.lv] 52) = U
  have HJ : Hid (Row U w.heap.size [.int .i64 j.id, .int .i64 j.pr, .int .i64 j.nd, .int .i64 j.na, .int .i64 j.nb, .int .i64 j.nc, .int .i64 j.la, .int .i64 j.lb, .int .i64 j.lc, .int .i64 j.wl, .int .i64 j.lv]) := by subst hU; exact row_fresh w [.int .i64 j.id, .int .i64 j.pr, .int .i64 j.nd, .int .i64 j.na, .int .i64 j.nb, .int .i64 j.nc, .int .i64 j.la, .int .i64 j.lb, .int .i64 j.lc, .int .i64 j.wl, .int .i64 j.lv] 52
  have HC1 : Hid (CpM V U R K Q0) := by subst hU; exact HC0.out.below (low_alloc _ _)
  clear hU
  have hQw : Q0 < w.heap.size := HC0.out.box.lt
  have hGw : K.gQ < w.heap.size := (HC0.out.st.rng K.gQ (by simp [RK.blocks])).2
  have HRl : Hid (Row U K.gL (flat R.lic)) := HC1.out.rx.rL
  obtain ⟨r, hr⟩ : ∃ r, (tkR false j.lic R.lic f u).getD [] = r := ⟨_, rfl⟩
  obtain ⟨k, hk⟩ : ∃ k, (tkR false j.lic R.lic f u).isSome = k := ⟨_, rfl⟩
  have HCS : Hid (∀ W : World, Sq W (some ⟨K.gL, 0, none⟩) (flat R.lic) → Calls Tryz.prog 32 #[.agg #[.slice (some ⟨K.gL, 0, none⟩) R.lic.length K.cL], .int .i64 f, .int .i64 u, .agg #[.int .i64 j.la, .int .i64 j.lb, .int .i64 j.lc]] W (RetP W r k)) := fun W hW => by
    have h := implProfTake_c (some ⟨K.gL, 0, none⟩) K.cL R.lic f u j.lic W hW
    rw [hr, hk] at h
    exact h
  have Hr : Hid ((tkR false j.lic R.lic f u).getD [] = r) := hr
  have Hk : Hid ((tkR false j.lic R.lic f u).isSome = k) := hk
  clear hr hk
  have HK : Hid (∀ W : World, Below U.heap.size U W → Below U.heap.size U W ∧ U.heap.size ≤ W.heap.size ∧ W.cell? ⟨Q0, 4, none⟩ = some (.slice (some ⟨K.gL, 0, none⟩) R.lic.length K.cL) ∧ W.cell? ⟨w.heap.size, 6, none⟩ = some (.int .i64 j.la) ∧ W.cell? ⟨w.heap.size, 7, none⟩ = some (.int .i64 j.lb) ∧ W.cell? ⟨w.heap.size, 8, none⟩ = some (.int .i64 j.lc)) := fun W h => ⟨h, h.size, (HC1.out.box.below h).cell 4 _ rfl, (HJ.out.below h).cell 6 _ rfl, (HJ.out.below h).cell 7 _ rfl, (HJ.out.below h).cell 8 _ rfl⟩
  have D1 : Hid (Below U.heap.size U U.drew) := low_drew U
  have z1 : U.heap.size ≤ U.heap.size := Nat.le_refl _
  have z2 : U.heap.size ≤ U.drew.heap.size := Nat.le_refl _
  go_wp2_with fail
  go_cut [13, 14] (fun p q wc => ∃ (Z : Nat) (a : Option Addr) (c : Nat), p = .pointer (some ⟨Z, 0, none⟩) ∧ q = .bool k ∧ Boxd U wc Z a c r)
  case first =>
    go_region_held3 (fun W => Below U.heap.size U W ∧ U.heap.size ≤ W.heap.size ∧ W.cell? ⟨Q0, 4, none⟩ = some (.slice (some ⟨K.gL, 0, none⟩) R.lic.length K.cL) ∧ W.cell? ⟨w.heap.size, 6, none⟩ = some (.int .i64 j.la) ∧ W.cell? ⟨w.heap.size, 7, none⟩ = some (.int .i64 j.lb) ∧ W.cell? ⟨w.heap.size, 8, none⟩ = some (.int .i64 j.lc)) ((go_split_ands; refine HK.out _ ?_; first | (exact Hid.out (by with_reducible assumption)) | (exact behind_alloc (Hid.out (by with_reducible assumption)) _) | (with_reducible assumption) | (exact behind (by with_reducible assumption) (by with_reducible assumption)) | (exact behind_alloc (by with_reducible assumption) _) | (repeat (refine Below.setCell ?_ (by with_reducible assumption) _)); (exact Hid.out (by with_reducible assumption)) | (go_grown; done)))
      (first
      | (go_at_call 32; refine (HCS.out _ ((Sq.of_row HRl.out).below (And.left (by with_reducible assumption)))).mono ?_; rintro e wk ⟨v0, rfl, hans, hbk⟩; obtain ⟨a0', c0', hv0, _⟩ := hans.form; subst hv0;
          have Bk : Hid (Below U.heap.size U wk) := behind hbk (And.left (by with_reducible assumption));
          (try have FB : Hid (Boxd U (wk.setCell ⟨_, 0, none⟩ (.slice a0' r.length c0')) _ a0' c0' r) := fin_box (row_fresh _ [.slice none 0 0] 44) hans hbk Bk.out (by first | exact Nat.le_refl _ | omega | (simp [go_sem]; omega)));
          (try have FB : Hid (Boxd U (wk.setCell ⟨_, 0, none⟩ (.slice a0' r.length c0')) _ a0' c0' r) := fin_box ((row_fresh _ [.slice none 0 0] 44).below (low_drew _)) hans hbk Bk.out (by first | exact Nat.le_refl _ | omega | (simp [go_sem]; omega)));
          have FN : Hid (Boxd U (wk.alloc (.cells #[.slice a0' r.length c0'] 44)) wk.heap.size a0' c0' r) := fin_new hans (by first | exact Nat.le_refl _ | omega | (simp [go_sem]; omega)) Bk.out; clear hans;
          (first | have C := behind hbk (by with_reducible assumption) | have C := hbk); obtain ⟨hck, hfk, hzk⟩ := bfacts C))
    all_goals
      go_split_ands
      go_wp2_with fail
      go_meet
      case rel =>
        first
          | exact ⟨_, _, _, rfl, rfl, FB.out⟩
          | exact ⟨U.heap.size, a0', c0', rfl, rfl, FB.out⟩
          | exact ⟨_, _, _, rfl, rfl, FN.out⟩
  case rest =>
  obtain ⟨Z, a0, c0, rfl, rfl, hZ, hP, hB, hUZ, _⟩ := hcut
  have Bc : Hid (Below U.heap.size U wc) := hB
  have XZ : Hid (Row wc Z [.slice a0 r.length c0]) := hZ
  have PC : Hid (AnsP U.heap.size wc.heap.size wc r.length (flat r) (.slice a0 r.length c0)) := hP
  clear hZ hP hB D1 z1 z2 HK HCS
  have hVU : V.heap.size ≤ U.heap.size := HC1.out.low.size
  cases htk : tkR false j.lic R.lic f u with
  | none =>
    have hkf : k = false := by have := Hk.out; rw [htk] at this; exact this.symm
    subst hkf
    have HN : Hid (tkR false j.lic R.lic f u = none) := by show _ = _; exact htk
    clear htk
    go_wp2_with fail
    go_ret
    exact retM_no rfl (.inl HN.out) (below_then HC1.out.low Bc.out)
  | some L =>
    have hkt : k = true := by have := Hk.out; rw [htk] at this; exact this.symm
    have hry : r = L := by have := Hr.out; rw [htk] at this; exact this.symm
    subst hkt hry
    have hy : 0 < r.length := (tk_some htk).2.2.2.one
    obtain ⟨g, hgr, hg1, rfl⟩ : ∃ g, Row wc g (flat r) ∧ U.heap.size ≤ g ∧ a0 = some ⟨g, 0, none⟩ := by
      obtain ⟨_, a', c', hv', h0⟩ := PC.out
      cases hv'
      rcases h0 with h0 | ⟨g, rfl, h1, _, h3⟩
      · omega
      · exact ⟨g, h3, h1, rfl⟩
    have HTk : Hid (tkR false j.lic R.lic f u = some r) := by show _ = _; exact htk
    have NX : Hid (CpM V (wc.setCell ⟨Q0, 4, none⟩ (.slice (some ⟨g, 0, none⟩) r.length c0)) { R with lic := r } { K with gL := g, cL := c0 } Q0) := HC1.out.lics Bc.out hgr hg1
    have NJ : Hid (Row (wc.setCell ⟨Q0, 4, none⟩ (.slice (some ⟨g, 0, none⟩) r.length c0)) w.heap.size [.int .i64 j.id, .int .i64 j.pr, .int .i64 j.nd, .int .i64 j.na, .int .i64 j.nb, .int .i64 j.nc, .int .i64 j.la, .int .i64 j.lb, .int .i64 j.lc, .int .i64 j.wl, .int .i64 j.lv]) := (HJ.out.below Bc.out).apart Q0 4 _ (by omega)
    have b4 := (HC1.out.box.below Bc.out).cell 4 _ rfl
    have f4 := (HC1.out.box.below Bc.out).free 4
    have bz := XZ.out.cell 0 _ rfl
    clear htk hgr PC
    go_wp2_with fail
    generalize wc.setCell ⟨Q0, 4, none⟩ (.slice (some ⟨g, 0, none⟩) r.length c0) = w8 at NX NJ ⊢
    clear b4 f4 bz XZ Bc HJ HC1 HRl Hr Hk hUZ hVU hg1 hy
    go_loopw [40] (fun i wr => ∃ (m : Nat) (cur : List (List Nd)) (K' : RK), m ≤ xs.length ∧ i = .int .i64 m ∧ CpM V wr { R with lic := r, pss := cur } K' Q0 ∧ cur.length = R.pss.length ∧ mvP false j.need f u R.pss xs = mvP false j.need f u cur (xs.drop m) ∧ Row wr w.heap.size [.int .i64 j.id, .int .i64 j.pr, .int .i64 j.nd, .int .i64 j.na, .int .i64 j.nb, .int .i64 j.nc, .int .i64 j.la, .int .i64 j.lb, .int .i64 j.lc, .int .i64 j.wl, .int .i64 j.lv] ∧ K'.gQ = K.gQ) (fun i _ => xs.length - (intOf i).toNat)
    case atStart => exact ⟨0, R.pss, _, Nat.zero_le _, rfl, NX.out, rfl, rfl, NJ.out, rfl⟩
    case round =>
      obtain ⟨m, cur, K', hm, rfl, hcp, hcl, hmv, hjr, hgq⟩ := hrel
      have HC : Hid (CpM V wr { R with lic := r, pss := cur } K' Q0) := hcp
      have HCl : Hid (cur.length = R.pss.length) := by show _ = _; exact hcl
      have HMv : Hid (mvP false j.need f u R.pss xs = mvP false j.need f u cur (xs.drop m)) := by show _ = _; exact hmv
      have HJw : Hid (Row wr w.heap.size [.int .i64 j.id, .int .i64 j.pr, .int .i64 j.nd, .int .i64 j.na, .int .i64 j.nb, .int .i64 j.nc, .int .i64 j.la, .int .i64 j.lb, .int .i64 j.lc, .int .i64 j.wl, .int .i64 j.lv]) := hjr
      have HGq : Hid (K'.gQ = K.gQ) := by show _ = _; exact hgq
      generalize r = L at HC HTk
      clear hcp hcl hmv hjr hgq NX NJ
      by_cases hlt : m < xs.length
      · have hm0 : (0 : Int) ≤ (m : Int) := by omega
        have hm1 : (m : Int) < (xs.length : Int) := by omega
        obtain ⟨px, rfl, _, cx0⟩ := ((HXs.out.below HC.out.low)).cell m _ (ints_at xs m hlt)
        have HXm : Hid (xs[m]? = some xs[m]) := List.getElem?_eq_getElem hlt
        have hnd := HTh.out xs[m] (List.getElem_mem hlt)
        unfold isNd at hnd
        have hpl := HPl.out
        obtain ⟨t, ht⟩ : ∃ t : Nat, xs[m] = t := ⟨xs[m].toNat, by omega⟩
        rw [ht] at cx0 HXm hnd
        clear ht
        have ht0 : (0 : Int) ≤ (t : Int) := by omega
        have ht2 : (t : Int) < (cur.length : Int) := by have := HCl.out; omega
        have htl : t < cur.length := by omega
        clear hpl
        have HD : Hid (xs.drop m = (t : Int) :: xs.drop (m + 1)) := by
          show _ = _
          rw [List.drop_eq_getElem_cons hlt]
          congr 1
          have := HXm.out
          rw [List.getElem?_eq_getElem hlt] at this
          exact Option.some.inj this
        have HEt : Hid (cur[t]? = some cur[t]) := List.getElem?_eq_getElem htl
        have HGet : Hid (cur.getD (t : Int).toNat [] = cur[t]) := by
          show _ = _
          rw [Int.toNat_natCast, List.getD_eq_getElem?_getD, HEt.out]
          rfl
        generalize cur[t] = ns at HEt HGet
        have hh := HC.out.st.hh
        dsimp only at hh
        have hth : t < K'.hs.length := by omega
        obtain ⟨ct, hct⟩ := HC.out.st.tqs t K'.hs[t] ns (List.getElem?_eq_getElem hth) HEt.out
        have HRn : Hid (Row wr K'.hs[t] (flat ns)) := HC.out.rx.each t _ ns (List.getElem?_eq_getElem hth) HEt.out
        generalize K'.hs[t] = hT at hct HRn
        have HQr : Hid (Row wr K'.gQ K'.tq) := HC.out.rx.rQ
        have HTq : Hid (K'.tq[t]? = some (.slice (some ⟨hT, 0, none⟩) ns.length ct)) := hct
        clear hct hh hth
        have hUV : V.heap.size ≤ wr.heap.size := HC.out.low.size
        obtain ⟨r, hr⟩ : ∃ r, (tkR false j.need ns f u).getD [] = r := ⟨_, rfl⟩
        obtain ⟨k, hk⟩ : ∃ k, (tkR false j.need ns f u).isSome = k := ⟨_, rfl⟩
        have HCS : Hid (∀ W : World, Sq W (some ⟨hT, 0, none⟩) (flat ns) → Calls Tryz.prog 32 #[.agg #[.slice (some ⟨hT, 0, none⟩) ns.length ct], .int .i64 f, .int .i64 u, .agg #[.int .i64 j.na, .int .i64 j.nb, .int .i64 j.nc]] W (RetP W r k)) := fun W hW => by
          have h := implProfTake_c (some ⟨hT, 0, none⟩) ct ns f u j.need W hW
          rw [hr, hk] at h
          exact h
        have Hr : Hid ((tkR false j.need ns f u).getD [] = r) := hr
        have Hk : Hid ((tkR false j.need ns f u).isSome = k) := hk
        clear hr hk
        have HK : Hid (∀ W : World, Below wr.heap.size wr W → Below wr.heap.size wr W ∧ wr.heap.size ≤ W.heap.size ∧ W.cell? ⟨Q0, 3, none⟩ = some (.slice (some ⟨K'.gQ, 0, none⟩) cur.length K'.cQ) ∧ W.cell? ⟨K'.gQ, t, none⟩ = some (.slice (some ⟨hT, 0, none⟩) ns.length ct) ∧ W.cell? ⟨w.heap.size, 3, none⟩ = some (.int .i64 j.na) ∧ W.cell? ⟨w.heap.size, 4, none⟩ = some (.int .i64 j.nb) ∧ W.cell? ⟨w.heap.size, 5, none⟩ = some (.int .i64 j.nc)) := fun W h => ⟨h, h.size, (HC.out.box.below h).cell 3 _ rfl, (HQr.out.below h).cell t _ HTq.out, (HJw.out.below h).cell 3 _ rfl, (HJw.out.below h).cell 4 _ rfl, (HJw.out.below h).cell 5 _ rfl⟩
        have D1 : Hid (Below wr.heap.size wr wr.drew) := low_drew wr
        have z1 : wr.heap.size ≤ wr.heap.size := Nat.le_refl _
        have z2 : wr.heap.size ≤ wr.drew.heap.size := Nat.le_refl _
        go_wp2_with fail
        go_cut [17, 18] (fun p q wc => ∃ (Z : Nat) (a : Option Addr) (c : Nat), p = .pointer (some ⟨Z, 0, none⟩) ∧ q = .bool k ∧ Boxd wr wc Z a c r)
        case first =>
          go_region_held3 (fun W => Below wr.heap.size wr W ∧ wr.heap.size ≤ W.heap.size ∧ W.cell? ⟨Q0, 3, none⟩ = some (.slice (some ⟨K'.gQ, 0, none⟩) cur.length K'.cQ) ∧ W.cell? ⟨K'.gQ, t, none⟩ = some (.slice (some ⟨hT, 0, none⟩) ns.length ct) ∧ W.cell? ⟨w.heap.size, 3, none⟩ = some (.int .i64 j.na) ∧ W.cell? ⟨w.heap.size, 4, none⟩ = some (.int .i64 j.nb) ∧ W.cell? ⟨w.heap.size, 5, none⟩ = some (.int .i64 j.nc)) ((go_split_ands; refine HK.out _ ?_; first | (exact Hid.out (by with_reducible assumption)) | (exact behind_alloc (Hid.out (by with_reducible assumption)) _) | (with_reducible assumption) | (exact behind (by with_reducible assumption) (by with_reducible assumption)) | (exact behind_alloc (by with_reducible assumption) _) | (repeat (refine Below.setCell ?_ (by with_reducible assumption) _)); (exact Hid.out (by with_reducible assumption)) | (go_grown; done)))
            (first
            | (go_at_call 32; refine (HCS.out _ ((Sq.of_row HRn.out).below (And.left (by with_reducible assumption)))).mono ?_; rintro e wk ⟨v0, rfl, hans, hbk⟩; obtain ⟨a0', c0', hv0, _⟩ := hans.form; subst hv0;
                have Bk : Hid (Below wr.heap.size wr wk) := behind hbk (And.left (by with_reducible assumption));
                (try have FB : Hid (Boxd wr (wk.setCell ⟨_, 0, none⟩ (.slice a0' r.length c0')) _ a0' c0' r) := fin_box (row_fresh _ [.slice none 0 0] 44) hans hbk Bk.out (by first | exact Nat.le_refl _ | omega | (simp [go_sem]; omega)));
                (try have FB : Hid (Boxd wr (wk.setCell ⟨_, 0, none⟩ (.slice a0' r.length c0')) _ a0' c0' r) := fin_box ((row_fresh _ [.slice none 0 0] 44).below (low_drew _)) hans hbk Bk.out (by first | exact Nat.le_refl _ | omega | (simp [go_sem]; omega)));
                have FN : Hid (Boxd wr (wk.alloc (.cells #[.slice a0' r.length c0'] 44)) wk.heap.size a0' c0' r) := fin_new hans (by first | exact Nat.le_refl _ | omega | (simp [go_sem]; omega)) Bk.out; clear hans;
                (first | have C := behind hbk (by with_reducible assumption) | have C := hbk); obtain ⟨hck, hfk, hzk⟩ := bfacts C))
          all_goals
            go_split_ands
            go_wp2_with fail
            go_meet
            case rel =>
              first
                | exact ⟨_, _, _, rfl, rfl, FB.out⟩
                | exact ⟨wr.heap.size, a0', c0', rfl, rfl, FB.out⟩
                | exact ⟨_, _, _, rfl, rfl, FN.out⟩
        case rest =>
        obtain ⟨Z, a0, c0, rfl, rfl, hZ, hP, hB, hUZ, _⟩ := hcut
        have Bc : Hid (Below wr.heap.size wr wc) := hB
        have XZ : Hid (Row wc Z [.slice a0 r.length c0]) := hZ
        have PC : Hid (AnsP wr.heap.size wc.heap.size wc r.length (flat r) (.slice a0 r.length c0)) := hP
        clear hZ hP hB D1 z1 z2 HK HCS
        have BVc : Hid (Below V.heap.size V wc) := below_then HC.out.low Bc.out
        cases htk : tkR false j.need ns f u with
        | none =>
          have hkf : k = false := by have := Hk.out; rw [htk] at this; exact this.symm
          subst hkf
          have HN : Hid (mvP false j.need f u R.pss xs = none) := by
            show _ = _
            rw [HMv.out, HD.out]
            exact mvP_none (by rw [HGet.out]; exact htk)
          clear htk
          go_wp2_with fail
          go_ret
          exact retM_no rfl (.inr HN.out) BVc.out
        | some y =>
          have hkt : k = true := by have := Hk.out; rw [htk] at this; exact this.symm
          have hry : r = y := by have := Hr.out; rw [htk] at this; exact this.symm
          subst hkt hry
          have hy : 0 < r.length := (tk_some htk).2.2.2.one
          obtain ⟨g, hgr, hg1, rfl⟩ : ∃ g, Row wc g (flat r) ∧ wr.heap.size ≤ g ∧ a0 = some ⟨g, 0, none⟩ := by
            obtain ⟨_, a', c', hv', h0⟩ := PC.out
            cases hv'
            rcases h0 with h0 | ⟨g, rfl, h1, _, h3⟩
            · omega
            · exact ⟨g, h3, h1, rfl⟩
          have NX : Hid (CpM V (wc.drew.setCell ⟨K'.gQ, t, none⟩ (.slice (some ⟨g, 0, none⟩) r.length c0)) { R with lic := L, pss := cur.set t r } { K' with hs := K'.hs.set t g, tq := K'.tq.set t (.slice (some ⟨g, 0, none⟩) r.length c0) } Q0) := HC.out.put (below_then Bc.out (low_drew _)) (n := t) (c := c0) (by show t < cur.length; omega) (hgr.below (low_drew _)) hg1
          have NM : Hid (mvP false j.need f u R.pss xs = mvP false j.need f u (cur.set t r) (xs.drop (m + 1))) := by
            show _ = _
            rw [HMv.out, HD.out, mvP_some (x := r) (by rw [HGet.out]; exact htk), Int.toNat_natCast]
          have NL : Hid ((cur.set t r).length = R.pss.length) := by show _ = _; rw [List.length_set]; exact HCl.out
          have NJ : Hid (Row (wc.drew.setCell ⟨K'.gQ, t, none⟩ (.slice (some ⟨g, 0, none⟩) r.length c0)) w.heap.size [.int .i64 j.id, .int .i64 j.pr, .int .i64 j.nd, .int .i64 j.na, .int .i64 j.nb, .int .i64 j.nc, .int .i64 j.la, .int .i64 j.lb, .int .i64 j.lc, .int .i64 j.wl, .int .i64 j.lv]) := ((HJw.out.below Bc.out).below (low_drew _)).apart K'.gQ t _ (by have := HGq.out; omega)
          have b3 : wc.cell? ⟨Q0, 3, none⟩ = some (.slice (some ⟨K'.gQ, 0, none⟩) cur.length K'.cQ) := (HC.out.box.below Bc.out).cell 3 _ rfl
          have bz := XZ.out.cell 0 _ rfl
          have ct0 := (HQr.out.below Bc.out).cell t _ HTq.out
          have ft0 := (HQr.out.below Bc.out).free t
          clear htk hgr
          go_wp2_with fail
          go_region
          all_goals
            go_wp2_with fail
            exact ⟨⟨m + 1, cur.set t r, _, by omega, by go_num, NX.out, NL.out, NM.out, NJ.out, HGq.out⟩, by simp [intOf]; omega⟩
      · have hme : m = xs.length := by omega
        have HQf : Hid (mvP false j.need f u R.pss xs = some cur) := by
          show _ = _
          rw [HMv.out, hme, List.drop_length]
          rfl
        clear hme
        go_wp2_with fail
        go_ret
        exact retM_yes rfl HTk.out HQf.out HC.out

set_option maxRecDepth 100000 in
set_option maxHeartbeats 8000000 in
theorem moved_false (A : Ra) (R : Rm) (j : Jb) (f u : Int) (x : Option Addr) (cx : Nat) (xs : List Int) (hs : RSmall R) (hx : xs.length ≤ 1048576) (w : World) (h : RAt w A R) (hxs : Sq w x (ints xs)) :
    Calls Tryz.prog 31 #[.agg #[.slice A.aP R.ps.length A.cP, .slice A.aN R.ns.length A.cN, .slice A.aU R.up.length A.cU, .slice A.aQ R.pss.length A.cQ, .slice A.aL R.lic.length A.cL], .agg #[.int .i64 j.id, .int .i64 j.pr, .int .i64 j.nd, .int .i64 j.na, .int .i64 j.nb, .int .i64 j.nc, .int .i64 j.la, .int .i64 j.lb, .int .i64 j.lc, .int .i64 j.wl, .int .i64 j.lv], .int .i64 f, .int .i64 u, .slice x xs.length cx, .func (.func 32) #[] #[]] w (RetR w (mvR false R j f u xs)) := by
  have H : Hid (RAt w A R) := h
  have HM : Hid (RSmall R) := hs
  have HXs : Hid (Sq w x (ints xs)) := hxs
  clear h hs hxs
  go_enter Tryz.func31, Tryz.ntmps31
  go_wp2_with fail
  generalize hV : ((w.alloc (.cells #[.slice A.aP R.ps.length A.cP, .slice A.aN R.ns.length A.cN, .slice A.aU R.up.length A.cU, .slice A.aQ R.pss.length A.cQ, .slice A.aL R.lic.length A.cL] 46)).alloc (.cells #[.int .i64 j.id, .int .i64 j.pr, .int .i64 j.nd, .int .i64 j.na, .int .i64 j.nb, .int .i64 j.nc, .int .i64 j.la, .int .i64 j.lb, .int .i64 j.lc, .int .i64 j.wl, .int .i64 j.lv] 52)).alloc (.cells #[.slice none 0 0, .slice none 0 0, .slice none 0 0, .slice none 0 0, .slice none 0 0] 46) = V
  have HA : Hid (Row V w.heap.size [.slice A.aP R.ps.length A.cP, .slice A.aN R.ns.length A.cN, .slice A.aU R.up.length A.cU, .slice A.aQ R.pss.length A.cQ, .slice A.aL R.lic.length A.cL]) := by subst hV; exact ((row_fresh w [.slice A.aP R.ps.length A.cP, .slice A.aN R.ns.length A.cN, .slice A.aU R.up.length A.cU, .slice A.aQ R.pss.length A.cQ, .slice A.aL R.lic.length A.cL] 46).below (low_alloc _ _)).below (low_alloc _ _)
  have HJ : Hid (Row V (w.heap.size + 1) [.int .i64 j.id, .int .i64 j.pr, .int .i64 j.nd, .int .i64 j.na, .int .i64 j.nb, .int .i64 j.nc, .int .i64 j.la, .int .i64 j.lb, .int .i64 j.lc, .int .i64 j.wl, .int .i64 j.lv]) := by
    subst hV
    have h := row_fresh (w.alloc (.cells #[.slice A.aP R.ps.length A.cP, .slice A.aN R.ns.length A.cN, .slice A.aU R.up.length A.cU, .slice A.aQ R.pss.length A.cQ, .slice A.aL R.lic.length A.cL] 46)) [.int .i64 j.id, .int .i64 j.pr, .int .i64 j.nd, .int .i64 j.na, .int .i64 j.nb, .int .i64 j.nc, .int .i64 j.la, .int .i64 j.lb, .int .i64 j.lc, .int .i64 j.wl, .int .i64 j.lv] 52
    rw [show (w.alloc (.cells #[.slice A.aP R.ps.length A.cP, .slice A.aN R.ns.length A.cN, .slice A.aU R.up.length A.cU, .slice A.aQ R.pss.length A.cQ, .slice A.aL R.lic.length A.cL] 46)).heap.size = w.heap.size + 1 by simp [go_sem]] at h
    exact h.below (low_alloc _ _)
  have HZ : Hid (Row V (w.heap.size + 1 + 1) [.slice none 0 0, .slice none 0 0, .slice none 0 0, .slice none 0 0, .slice none 0 0]) := by
    subst hV
    have h := row_fresh ((w.alloc (.cells #[.slice A.aP R.ps.length A.cP, .slice A.aN R.ns.length A.cN, .slice A.aU R.up.length A.cU, .slice A.aQ R.pss.length A.cQ, .slice A.aL R.lic.length A.cL] 46)).alloc (.cells #[.int .i64 j.id, .int .i64 j.pr, .int .i64 j.nd, .int .i64 j.na, .int .i64 j.nb, .int .i64 j.nc, .int .i64 j.la, .int .i64 j.lb, .int .i64 j.lc, .int .i64 j.wl, .int .i64 j.lv] 52)) [.slice none 0 0, .slice none 0 0, .slice none 0 0, .slice none 0 0, .slice none 0 0] 46
    rw [show ((w.alloc (.cells #[.slice A.aP R.ps.length A.cP, .slice A.aN R.ns.length A.cN, .slice A.aU R.up.length A.cU, .slice A.aQ R.pss.length A.cQ, .slice A.aL R.lic.length A.cL] 46)).alloc (.cells #[.int .i64 j.id, .int .i64 j.pr, .int .i64 j.nd, .int .i64 j.na, .int .i64 j.nb, .int .i64 j.nc, .int .i64 j.la, .int .i64 j.lb, .int .i64 j.lc, .int .i64 j.wl, .int .i64 j.lv] 52)).heap.size = w.heap.size + 1 + 1 by simp [go_sem]] at h
    exact h
  have BV : Hid (Below w.heap.size w V) := by subst hV; exact behind_alloc (behind_alloc (low_alloc _ _) _) _
  clear hV
  have hZV : w.heap.size + 1 + 1 < V.heap.size := HZ.out.lt
  refine (implRoomOk_c A R HM.out _ (H.out.below BV.out)).mono ?_
  rintro e w1 ⟨k, rfl, hk, hb⟩
  have B1 : Hid (Below V.heap.size V w1) := hb
  have HK : Hid (k = true ↔ ROk R) := hk
  clear hb hk
  have z0 := (HZ.out.below B1.out).cell 0 _ rfl
  have f0 := (HZ.out.below B1.out).free 0
  have z1 := (HZ.out.below B1.out).cell 1 _ rfl
  have f1 := (HZ.out.below B1.out).free 1
  have z2 := (HZ.out.below B1.out).cell 2 _ rfl
  have f2 := (HZ.out.below B1.out).free 2
  have z3 := (HZ.out.below B1.out).cell 3 _ rfl
  have f3 := (HZ.out.below B1.out).free 3
  have z4 := (HZ.out.below B1.out).cell 4 _ rfl
  have f4 := (HZ.out.below B1.out).free 4
  cases k
  · have HN : Hid (mvR false R j f u xs = none) := mvR_no (fun t => by have := HK.out.2 t.room; cases this)
    clear HK
    have B8 := below_then BV.out B1.out
    go_wp2_with fail
    exact bodyPost_ret (v := .tuple #[.agg #[.slice none 0 0, .slice none 0 0, .slice none 0 0, .slice none 0 0, .slice none 0 0], .bool false]) (by simp [results, Tryz.results31, go_sem, *]) rfl (retR_no HN.out rfl (below_setL (show w.heap.size ≤ w.heap.size + 1 + 1 by omega) [.slice none 0 0, .slice none 0 0, .slice none 0 0, .slice none 0 0, .slice none 0 0] 0 B8))
  have HRok : Hid (ROk R) := HK.out.1 rfl
  clear HK
  have y0 := (HJ.out.below B1.out).cell 0 _ rfl
  have y1 := (HJ.out.below B1.out).cell 1 _ rfl
  have y2 := (HJ.out.below B1.out).cell 2 _ rfl
  have y3 := (HJ.out.below B1.out).cell 3 _ rfl
  have y4 := (HJ.out.below B1.out).cell 4 _ rfl
  have y5 := (HJ.out.below B1.out).cell 5 _ rfl
  have y6 := (HJ.out.below B1.out).cell 6 _ rfl
  have y7 := (HJ.out.below B1.out).cell 7 _ rfl
  have y8 := (HJ.out.below B1.out).cell 8 _ rfl
  have y9 := (HJ.out.below B1.out).cell 9 _ rfl
  have y10 := (HJ.out.below B1.out).cell 10 _ rfl
  have a0 := (HA.out.below B1.out).cell 0 _ rfl
  have a1 := (HA.out.below B1.out).cell 1 _ rfl
  have a2 := (HA.out.below B1.out).cell 2 _ rfl
  have a3 := (HA.out.below B1.out).cell 3 _ rfl
  have a4 := (HA.out.below B1.out).cell 4 _ rfl
  go_wp2_with fail
  clear y0 y1 y2 y3 y4 y5 y6 y7 y8 y9 y10 z0 z1 z2 z3 z4 f0 f1 f2 f3 f4 a0 a1 a2 a3 a4
  refine (asksFor_c A.aP A.aN x A.cP A.cN cx R.ps R.ns j xs HM.out.n hx _ ((H.out.sP.below BV.out).below B1.out) ((H.out.sN.below BV.out).below B1.out) ((HXs.out.below BV.out).below B1.out)).mono ?_
  rintro e w2 ⟨k, rfl, hk, hb⟩
  have B2 : Hid (Below V.heap.size V w2) := below_then B1.out hb
  have HK : Hid (k = true ↔ AskOk R.ps R.ns j xs) := hk
  clear hb hk B1
  have z0 := (HZ.out.below B2.out).cell 0 _ rfl
  have f0 := (HZ.out.below B2.out).free 0
  have z1 := (HZ.out.below B2.out).cell 1 _ rfl
  have f1 := (HZ.out.below B2.out).free 1
  have z2 := (HZ.out.below B2.out).cell 2 _ rfl
  have f2 := (HZ.out.below B2.out).free 2
  have z3 := (HZ.out.below B2.out).cell 3 _ rfl
  have f3 := (HZ.out.below B2.out).free 3
  have z4 := (HZ.out.below B2.out).cell 4 _ rfl
  have f4 := (HZ.out.below B2.out).free 4
  cases k
  · have HN : Hid (mvR false R j f u xs = none) := mvR_no (fun t => by have := HK.out.2 t.ask; cases this)
    clear HK
    have B8 := below_then BV.out B2.out
    go_wp2_with fail
    exact bodyPost_ret (v := .tuple #[.agg #[.slice none 0 0, .slice none 0 0, .slice none 0 0, .slice none 0 0, .slice none 0 0], .bool false]) (by simp [results, Tryz.results31, go_sem, *]) rfl (retR_no HN.out rfl (below_setL (show w.heap.size ≤ w.heap.size + 1 + 1 by omega) [.slice none 0 0, .slice none 0 0, .slice none 0 0, .slice none 0 0, .slice none 0 0] 0 B8))
  have HOk : Hid (MvOk R j xs) := (HK.out.1 rfl).mv HRok.out
  clear HK z0 z1 z2 z3 z4 f0 f1 f2 f3 f4
  have a0 := (HA.out.below B2.out).cell 0 _ rfl
  have a1 := (HA.out.below B2.out).cell 1 _ rfl
  have a2 := (HA.out.below B2.out).cell 2 _ rfl
  have a3 := (HA.out.below B2.out).cell 3 _ rfl
  have a4 := (HA.out.below B2.out).cell 4 _ rfl
  go_wp2_with fail
  clear a0 a1 a2 a3 a4
  refine (copyRoom_r A R HM.out HRok.out HOk.out.nodes _ ((H.out.below BV.out).below B2.out)).mono ?_
  rintro e w7 ⟨K, rfl, hst, hrx, hb⟩
  have B7 : Hid (Below V.heap.size V w7) := below_then B2.out hb
  have M8 : Hid (CpM V (w7.alloc (.cells #[.slice (some ⟨K.gP, 0, none⟩) R.ps.length K.cP, .slice (some ⟨K.gN, 0, none⟩) R.ns.length K.cN, .slice (some ⟨K.gU, 0, none⟩) R.up.length K.cU, .slice (some ⟨K.gQ, 0, none⟩) R.pss.length K.cQ, .slice (some ⟨K.gL, 0, none⟩) R.lic.length K.cL] 46)) R K w7.heap.size) :=
    ⟨row_fresh w7 _ 46, hst.wide B2.out.size (by simp [go_sem]), hrx.below (low_alloc _ _), behind_alloc B7.out _, B7.out.size, fun hm => by have := hst.rng _ hm; omega⟩
  clear hst hrx hb
  have h17 : w.heap.size + 1 ≠ w7.heap.size := by have := (HJ.out.below B7.out).lt; omega
  have h18 : w.heap.size + 1 < w7.heap.size := (HJ.out.below B7.out).lt
  have y0 := (HJ.out.below B7.out).cell 0 _ rfl
  have y1 := (HJ.out.below B7.out).cell 1 _ rfl
  have y2 := (HJ.out.below B7.out).cell 2 _ rfl
  have y3 := (HJ.out.below B7.out).cell 3 _ rfl
  have y4 := (HJ.out.below B7.out).cell 4 _ rfl
  have y5 := (HJ.out.below B7.out).cell 5 _ rfl
  have y6 := (HJ.out.below B7.out).cell 6 _ rfl
  have y7 := (HJ.out.below B7.out).cell 7 _ rfl
  have y8 := (HJ.out.below B7.out).cell 8 _ rfl
  have y9 := (HJ.out.below B7.out).cell 9 _ rfl
  have y10 := (HJ.out.below B7.out).cell 10 _ rfl
  go_wp2_with fail
  clear y0 y1 y2 y3 y4 y5 y6 y7 y8 y9 y10 h17 h18
  generalize w7.alloc (.cells #[.slice (some ⟨K.gP, 0, none⟩) R.ps.length K.cP, .slice (some ⟨K.gN, 0, none⟩) R.ns.length K.cN, .slice (some ⟨K.gU, 0, none⟩) R.up.length K.cU, .slice (some ⟨K.gQ, 0, none⟩) R.pss.length K.cQ, .slice (some ⟨K.gL, 0, none⟩) R.lic.length K.cL] 46) = w8 at M8 ⊢
  generalize w7.heap.size = Q0 at M8 ⊢
  clear B7 B2
  refine (move_false V R K Q0 j f u x cx xs HOk.out.there HRok.out.profs hx w8 M8.out (HXs.out.below BV.out)).mono ?_
  rintro e w9 (⟨rfl, hno, hb⟩ | ⟨L, Q, K', rfl, hl, hq, hcp⟩)
  · have HN : Hid (mvR false R j f u xs = none) := by
      rcases hno with h | h
      · exact mvR_lic HOk.out h
      · exact mvR_pss h
    have B9 : Hid (Below V.heap.size V w9) := hb
    clear hno hb M8
    have z0 := (HZ.out.below B9.out).cell 0 _ rfl
    have f0 := (HZ.out.below B9.out).free 0
    have z1 := (HZ.out.below B9.out).cell 1 _ rfl
    have f1 := (HZ.out.below B9.out).free 1
    have z2 := (HZ.out.below B9.out).cell 2 _ rfl
    have f2 := (HZ.out.below B9.out).free 2
    have z3 := (HZ.out.below B9.out).cell 3 _ rfl
    have f3 := (HZ.out.below B9.out).free 3
    have z4 := (HZ.out.below B9.out).cell 4 _ rfl
    have f4 := (HZ.out.below B9.out).free 4
    have B8 := below_then BV.out B9.out
    go_wp2_with fail
    exact bodyPost_ret (v := .tuple #[.agg #[.slice none 0 0, .slice none 0 0, .slice none 0 0, .slice none 0 0, .slice none 0 0], .bool false]) (by simp [results, Tryz.results31, go_sem, *]) rfl (retR_no HN.out rfl (below_setL (show w.heap.size ≤ w.heap.size + 1 + 1 by omega) [.slice none 0 0, .slice none 0 0, .slice none 0 0, .slice none 0 0, .slice none 0 0] 0 B8))
  · have HYes : Hid (mvR false R j f u xs = some { R with lic := L, pss := Q }) := mvR_yes HOk.out hl hq
    have HC : Hid (CpM V w9 { R with lic := L, pss := Q } K' Q0) := hcp
    clear hl hq hcp M8
    have z0 := (HZ.out.below HC.out.low).cell 0 _ rfl
    have f0 := (HZ.out.below HC.out.low).free 0
    have q0 := HC.out.box.cell 0 _ rfl
    have z1 := (HZ.out.below HC.out.low).cell 1 _ rfl
    have f1 := (HZ.out.below HC.out.low).free 1
    have q1 := HC.out.box.cell 1 _ rfl
    have z2 := (HZ.out.below HC.out.low).cell 2 _ rfl
    have f2 := (HZ.out.below HC.out.low).free 2
    have q2 := HC.out.box.cell 2 _ rfl
    have z3 := (HZ.out.below HC.out.low).cell 3 _ rfl
    have f3 := (HZ.out.below HC.out.low).free 3
    have q3 := HC.out.box.cell 3 _ rfl
    have z4 := (HZ.out.below HC.out.low).cell 4 _ rfl
    have f4 := (HZ.out.below HC.out.low).free 4
    have q4 := HC.out.box.cell 4 _ rfl
    dsimp only at q0 q1 q2 q3 q4
    have B8 := below_then BV.out HC.out.low
    go_wp2_with fail
    have far : ∀ {b : Nat} {ys : List Value}, Row w9 b ys → V.heap.size ≤ b → Row (setL w9 (w.heap.size + 1 + 1) 0 [.slice (some ⟨K'.gP, 0, none⟩) R.ps.length K'.cP, .slice (some ⟨K'.gN, 0, none⟩) R.ns.length K'.cN, .slice (some ⟨K'.gU, 0, none⟩) R.up.length K'.cU, .slice (some ⟨K'.gQ, 0, none⟩) Q.length K'.cQ, .slice (some ⟨K'.gL, 0, none⟩) L.length K'.cL]) b ys := fun hr hb => ((((hr.apart (w.heap.size + 1 + 1) 0 _ (by omega)).apart (w.heap.size + 1 + 1) 1 _ (by omega)).apart (w.heap.size + 1 + 1) 2 _ (by omega)).apart (w.heap.size + 1 + 1) 3 _ (by omega)).apart (w.heap.size + 1 + 1) 4 _ (by omega)
    have hrg := HC.out.st.rng
    have hrx := HC.out.rx
    have hBl : Below w.heap.size w (setL w9 (w.heap.size + 1 + 1) 0 [.slice (some ⟨K'.gP, 0, none⟩) R.ps.length K'.cP, .slice (some ⟨K'.gN, 0, none⟩) R.ns.length K'.cN, .slice (some ⟨K'.gU, 0, none⟩) R.up.length K'.cU, .slice (some ⟨K'.gQ, 0, none⟩) Q.length K'.cQ, .slice (some ⟨K'.gL, 0, none⟩) L.length K'.cL]) := below_setL (by omega) _ _ B8
    have hsz : (setL w9 (w.heap.size + 1 + 1) 0 [.slice (some ⟨K'.gP, 0, none⟩) R.ps.length K'.cP, .slice (some ⟨K'.gN, 0, none⟩) R.ns.length K'.cN, .slice (some ⟨K'.gU, 0, none⟩) R.up.length K'.cU, .slice (some ⟨K'.gQ, 0, none⟩) Q.length K'.cQ, .slice (some ⟨K'.gL, 0, none⟩) L.length K'.cL]).heap.size = w9.heap.size := by simp only [setL, World.size_setCell]
    have hst : RStat { R with lic := L, pss := Q } K' w.heap.size w9.heap.size := HC.out.st.wide BV.out.size (Nat.le_refl _)
    rw [← hsz] at hst
    exact bodyPost_ret (v := .tuple #[.agg #[.slice (some ⟨K'.gP, 0, none⟩) R.ps.length K'.cP, .slice (some ⟨K'.gN, 0, none⟩) R.ns.length K'.cN, .slice (some ⟨K'.gU, 0, none⟩) R.up.length K'.cU, .slice (some ⟨K'.gQ, 0, none⟩) Q.length K'.cQ, .slice (some ⟨K'.gL, 0, none⟩) L.length K'.cL], .bool true]) (by simp [results, Tryz.results31, go_sem, *]) rfl (retR_yes HYes.out K' rfl hst ⟨far hrx.rP (hrg _ (by simp [RK.blocks])).1, far hrx.rN (hrg _ (by simp [RK.blocks])).1, far hrx.rU (hrg _ (by simp [RK.blocks])).1, far hrx.rQ (hrg _ (by simp [RK.blocks])).1, fun i h ns h1 h2 => far (hrx.each i h ns h1 h2) (hrg _ (mem_bl h1)).1, far hrx.rL (hrg _ (by simp [RK.blocks])).1⟩ hBl)
end Go.Proofs.YtmpjebkjopfejaaGreat

namespace Go.Proofs.YtmpjebkjopfejaaGreat
open Go.ChangeShapes Go.WideShapes Go.ChangeAt Go.RowKit

set_option maxRecDepth 100000 in
set_option maxHeartbeats 4000000 in
theorem implReserve_c (A : Ra) (R : Rm) (j : Jb) (f : Int) (x : Option Addr) (cx : Nat) (xs : List Int) (hs : RSmall R) (hx : xs.length ≤ 1048576) (w : World) (h : RAt w A R) (hxs : Sq w x (ints xs)) :
    Calls Tryz.prog 10 #[.agg #[.slice A.aP R.ps.length A.cP, .slice A.aN R.ns.length A.cN, .slice A.aU R.up.length A.cU, .slice A.aQ R.pss.length A.cQ, .slice A.aL R.lic.length A.cL], .agg #[.int .i64 j.id, .int .i64 j.pr, .int .i64 j.nd, .int .i64 j.na, .int .i64 j.nb, .int .i64 j.nc, .int .i64 j.la, .int .i64 j.lb, .int .i64 j.lc, .int .i64 j.wl, .int .i64 j.lv], .int .i64 f, .slice x xs.length cx] w (RetR w (mvR false R j f (wrap64 (f + j.wl)) xs)) := by
  generalize hu : wrap64 (f + j.wl) = u
  have H : Hid (RAt w A R) := h
  have HM : Hid (RSmall R) := hs
  have HXs : Hid (Sq w x (ints xs)) := hxs
  clear h hs hxs
  go_enter Tryz.func10, Tryz.ntmps10
  go_wp2_with fail
  generalize hV : ((w.alloc (.cells #[.slice A.aP R.ps.length A.cP, .slice A.aN R.ns.length A.cN, .slice A.aU R.up.length A.cU, .slice A.aQ R.pss.length A.cQ, .slice A.aL R.lic.length A.cL] 46)).alloc (.cells #[.int .i64 j.id, .int .i64 j.pr, .int .i64 j.nd, .int .i64 j.na, .int .i64 j.nb, .int .i64 j.nc, .int .i64 j.la, .int .i64 j.lb, .int .i64 j.lc, .int .i64 j.wl, .int .i64 j.lv] 52)).alloc (.cells #[.slice none 0 0, .slice none 0 0, .slice none 0 0, .slice none 0 0, .slice none 0 0] 46) = V
  have HZ : Hid (Row V (w.heap.size + 1 + 1) [.slice none 0 0, .slice none 0 0, .slice none 0 0, .slice none 0 0, .slice none 0 0]) := by
    subst hV
    have h := row_fresh ((w.alloc (.cells #[.slice A.aP R.ps.length A.cP, .slice A.aN R.ns.length A.cN, .slice A.aU R.up.length A.cU, .slice A.aQ R.pss.length A.cQ, .slice A.aL R.lic.length A.cL] 46)).alloc (.cells #[.int .i64 j.id, .int .i64 j.pr, .int .i64 j.nd, .int .i64 j.na, .int .i64 j.nb, .int .i64 j.nc, .int .i64 j.la, .int .i64 j.lb, .int .i64 j.lc, .int .i64 j.wl, .int .i64 j.lv] 52)) [.slice none 0 0, .slice none 0 0, .slice none 0 0, .slice none 0 0, .slice none 0 0] 46
    rw [show ((w.alloc (.cells #[.slice A.aP R.ps.length A.cP, .slice A.aN R.ns.length A.cN, .slice A.aU R.up.length A.cU, .slice A.aQ R.pss.length A.cQ, .slice A.aL R.lic.length A.cL] 46)).alloc (.cells #[.int .i64 j.id, .int .i64 j.pr, .int .i64 j.nd, .int .i64 j.na, .int .i64 j.nb, .int .i64 j.nc, .int .i64 j.la, .int .i64 j.lb, .int .i64 j.lc, .int .i64 j.wl, .int .i64 j.lv] 52)).heap.size = w.heap.size + 1 + 1 by simp [go_sem]] at h
    exact h
  have BV : Hid (Below w.heap.size w V) := by subst hV; exact behind_alloc (behind_alloc (low_alloc _ _) _) _
  clear hV
  have hZV : w.heap.size + 1 + 1 < V.heap.size := HZ.out.lt
  refine (moved_false A R j f u x cx xs HM.out hx _ (H.out.below BV.out) (HXs.out.below BV.out)).mono ?_
  rintro e w1 hret
  generalize hO : mvR false R j f u xs = o at hret
  have HO : Hid (mvR false R j f u xs = o) := hO
  clear hO
  cases o with
  | none =>
    obtain ⟨rfl, hb⟩ := hret
    have B1 : Hid (Below V.heap.size V w1) := hb
    clear hb
    have z0 := (HZ.out.below B1.out).cell 0 _ rfl
    have f0 := (HZ.out.below B1.out).free 0
    have z1 := (HZ.out.below B1.out).cell 1 _ rfl
    have f1 := (HZ.out.below B1.out).free 1
    have z2 := (HZ.out.below B1.out).cell 2 _ rfl
    have f2 := (HZ.out.below B1.out).free 2
    have z3 := (HZ.out.below B1.out).cell 3 _ rfl
    have f3 := (HZ.out.below B1.out).free 3
    have z4 := (HZ.out.below B1.out).cell 4 _ rfl
    have f4 := (HZ.out.below B1.out).free 4
    have B8 := below_then BV.out B1.out
    go_wp2_with fail
    exact bodyPost_ret (v := .tuple #[.agg #[.slice none 0 0, .slice none 0 0, .slice none 0 0, .slice none 0 0, .slice none 0 0], .bool false]) (by simp [results, Tryz.results10, go_sem, *]) rfl (retR_no HO.out rfl (below_setL (show w.heap.size ≤ w.heap.size + 1 + 1 by omega) [.slice none 0 0, .slice none 0 0, .slice none 0 0, .slice none 0 0, .slice none 0 0] 0 B8))
  | some Q =>
    obtain ⟨K, rfl, hst, hrx, hb⟩ := hret
    have B1 : Hid (Below V.heap.size V w1) := hb
    have HS : Hid (RStat Q K V.heap.size w1.heap.size) := hst
    have HX : Hid (RX w1 Q K) := hrx
    clear hb hst hrx
    have z0 := (HZ.out.below B1.out).cell 0 _ rfl
    have f0 := (HZ.out.below B1.out).free 0
    have z1 := (HZ.out.below B1.out).cell 1 _ rfl
    have f1 := (HZ.out.below B1.out).free 1
    have z2 := (HZ.out.below B1.out).cell 2 _ rfl
    have f2 := (HZ.out.below B1.out).free 2
    have z3 := (HZ.out.below B1.out).cell 3 _ rfl
    have f3 := (HZ.out.below B1.out).free 3
    have z4 := (HZ.out.below B1.out).cell 4 _ rfl
    have f4 := (HZ.out.below B1.out).free 4
    have B8 := below_then BV.out B1.out
    go_wp2_with fail
    have far : ∀ {b : Nat} {ys : List Value}, Row w1 b ys → V.heap.size ≤ b → Row (setL w1 (w.heap.size + 1 + 1) 0 [.slice (some ⟨K.gP, 0, none⟩) Q.ps.length K.cP, .slice (some ⟨K.gN, 0, none⟩) Q.ns.length K.cN, .slice (some ⟨K.gU, 0, none⟩) Q.up.length K.cU, .slice (some ⟨K.gQ, 0, none⟩) Q.pss.length K.cQ, .slice (some ⟨K.gL, 0, none⟩) Q.lic.length K.cL]) b ys := fun hr hb => ((((hr.apart (w.heap.size + 1 + 1) 0 _ (by omega)).apart (w.heap.size + 1 + 1) 1 _ (by omega)).apart (w.heap.size + 1 + 1) 2 _ (by omega)).apart (w.heap.size + 1 + 1) 3 _ (by omega)).apart (w.heap.size + 1 + 1) 4 _ (by omega)
    have hrg := HS.out.rng
    have hrx := HX.out
    have hBl : Below w.heap.size w (setL w1 (w.heap.size + 1 + 1) 0 [.slice (some ⟨K.gP, 0, none⟩) Q.ps.length K.cP, .slice (some ⟨K.gN, 0, none⟩) Q.ns.length K.cN, .slice (some ⟨K.gU, 0, none⟩) Q.up.length K.cU, .slice (some ⟨K.gQ, 0, none⟩) Q.pss.length K.cQ, .slice (some ⟨K.gL, 0, none⟩) Q.lic.length K.cL]) := below_setL (by omega) _ _ B8
    have hsz : (setL w1 (w.heap.size + 1 + 1) 0 [.slice (some ⟨K.gP, 0, none⟩) Q.ps.length K.cP, .slice (some ⟨K.gN, 0, none⟩) Q.ns.length K.cN, .slice (some ⟨K.gU, 0, none⟩) Q.up.length K.cU, .slice (some ⟨K.gQ, 0, none⟩) Q.pss.length K.cQ, .slice (some ⟨K.gL, 0, none⟩) Q.lic.length K.cL]).heap.size = w1.heap.size := by simp only [setL, World.size_setCell]
    have hst : RStat Q K w.heap.size w1.heap.size := ⟨HS.out.hh, HS.out.tqs, fun b hb => by have := hrg b hb; have := BV.out.size; omega, HS.out.nd⟩
    rw [← hsz] at hst
    exact bodyPost_ret (v := .tuple #[.agg #[.slice (some ⟨K.gP, 0, none⟩) Q.ps.length K.cP, .slice (some ⟨K.gN, 0, none⟩) Q.ns.length K.cN, .slice (some ⟨K.gU, 0, none⟩) Q.up.length K.cU, .slice (some ⟨K.gQ, 0, none⟩) Q.pss.length K.cQ, .slice (some ⟨K.gL, 0, none⟩) Q.lic.length K.cL], .bool true]) (by simp [results, Tryz.results10, go_sem, *]) rfl (retR_yes HO.out K rfl hst ⟨far hrx.rP (hrg _ (by simp [RK.blocks])).1, far hrx.rN (hrg _ (by simp [RK.blocks])).1, far hrx.rU (hrg _ (by simp [RK.blocks])).1, far hrx.rQ (hrg _ (by simp [RK.blocks])).1, fun i h ns h1 h2 => far (hrx.each i h ns h1 h2) (hrg _ (mem_bl h1)).1, far hrx.rL (hrg _ (by simp [RK.blocks])).1⟩ hBl)
end Go.Proofs.YtmpjebkjopfejaaGreat
