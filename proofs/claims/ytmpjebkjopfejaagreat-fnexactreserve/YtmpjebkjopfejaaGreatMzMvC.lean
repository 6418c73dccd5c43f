/- A room of the call's own in its box, and a profile of it changed. -/
import Derived.Test.YtmpjebkjopfejaaGreatMgRi
import Derived.Test.YtmpjebkjopfejaaGreatMzCoC
namespace Go.Proofs.YtmpjebkjopfejaaGreat
open Go.ChangeShapes Go.WideShapes Go.ChangeAt Go.RowKit

structure CpM (V W : World) (R : Rm) (K : RK) (Q0 : Nat) : Prop where
  box : Row W Q0 [.slice (some ⟨K.gP, 0, none⟩) R.ps.length K.cP, .slice (some ⟨K.gN, 0, none⟩) R.ns.length K.cN, .slice (some ⟨K.gU, 0, none⟩) R.up.length K.cU, .slice (some ⟨K.gQ, 0, none⟩) R.pss.length K.cQ, .slice (some ⟨K.gL, 0, none⟩) R.lic.length K.cL]
  st : RStat R K V.heap.size W.heap.size
  rx : RX W R K
  low : Below V.heap.size V W
  q0 : V.heap.size ≤ Q0
  qn : Q0 ∉ K.blocks
theorem RStat.wide {R : Rm} {K : RK} {B T B' T' : Nat} (h : RStat R K B T) (hB : B' ≤ B) (hT : T ≤ T') : RStat R K B' T' := ⟨h.hh, h.tqs, fun b hb => by have := h.rng b hb; omega, h.nd⟩
theorem CpM.below {V W W' : World} {R : Rm} {K : RK} {Q0 : Nat} (h : CpM V W R K Q0) (hb : Below W.heap.size W W') : CpM V W' R K Q0 :=
  ⟨h.box.below hb, h.st.wide (Nat.le_refl _) hb.size, h.rx.below hb, below_then h.low hb, h.q0, h.qn⟩

/-- The licences' profile put into a copied room. -/
theorem RStat.lics {R : Rm} {K : RK} {B T B' T' gL c : Nat} {L : List Nd} (h : RStat R K B T) (hB : B' ≤ gL) (hg : gL < B) (hT : T ≤ T') (hBT : B ≤ T') : RStat { R with lic := L } { K with gL := gL, cL := c } B' T' := by
  have hnd := h.nd
  have hrg := h.rng
  have hne : ∀ b ∈ K.blocks, gL ≠ b := fun b hb e => by have := hrg b hb; omega
  refine ⟨h.hh, h.tqs, fun b hb => ?_, ?_⟩
  · simp only [RK.blocks, List.mem_cons] at hb
    rcases hb with rfl | rfl | rfl | rfl | rfl | hb
    · have := hrg K.gP (by simp [RK.blocks]); omega
    · have := hrg K.gN (by simp [RK.blocks]); omega
    · have := hrg K.gU (by simp [RK.blocks]); omega
    · have := hrg K.gQ (by simp [RK.blocks]); omega
    · omega
    · have := hrg b (by simp [RK.blocks, hb]); omega
  · simp only [RK.blocks, List.nodup_cons, List.mem_cons, not_or] at hnd ⊢
    obtain ⟨⟨a1, a2, a3, a4, a5⟩, ⟨b1, b2, b3, b4⟩, ⟨c1, c2, c3⟩, ⟨d1, d2⟩, e1, f1⟩ := hnd
    have m1 := hne K.gP (by simp [RK.blocks])
    have m2 := hne K.gN (by simp [RK.blocks])
    have m3 := hne K.gU (by simp [RK.blocks])
    have m4 := hne K.gQ (by simp [RK.blocks])
    exact ⟨⟨a1, a2, a3, fun e => m1 e.symm, a5⟩, ⟨b1, b2, fun e => m2 e.symm, b4⟩, ⟨c1, fun e => m3 e.symm, c3⟩, ⟨fun e => m4 e.symm, d2⟩, fun hm => hne gL (by simp [RK.blocks, hm]) rfl, f1⟩

theorem mem_set {α : Type} {l : List α} {n : Nat} {x y : α} (h : y ∈ l.set n x) : y = x ∨ y ∈ l := by
  rcases List.mem_or_eq_of_mem_set h with h | h
  · exact .inr h
  · exact .inl h
theorem nodup_set {l : List Nat} {n g : Nat} (h : l.Nodup) (hg : g ∉ l) : (l.set n g).Nodup := by
  rw [List.Nodup, List.pairwise_iff_getElem] at h ⊢
  intro i j hi hj hij
  simp only [List.length_set] at hi hj
  rw [List.getElem_set, List.getElem_set]
  split
  · split
    · omega
    · exact fun e => hg (e ▸ List.getElem_mem hj)
  · split
    · exact fun e => hg (e ▸ List.getElem_mem hi)
    · exact h i j hi hj hij

/-- A profile changed: a new one lies where the old one lay. -/
theorem CpM.put {V W W' : World} {R : Rm} {K : RK} {Q0 : Nat} (h : CpM V W R K Q0) (hb : Below W.heap.size W W') {n g c : Nat} {x : List Nd} (hn : n < R.pss.length) (hg : Row W' g (flat x)) (hgW : W.heap.size ≤ g) :
    CpM V (W'.setCell ⟨K.gQ, n, none⟩ (.slice (some ⟨g, 0, none⟩) x.length c)) { R with pss := R.pss.set n x } { K with hs := K.hs.set n g, tq := K.tq.set n (.slice (some ⟨g, 0, none⟩) x.length c) } Q0 := by
  have hrg := h.st.rng
  have hlt : ∀ b ∈ K.blocks, b < g := fun b hb' => by have := hrg b hb'; omega
  have hgl := hg.lt
  have hQ0 : Q0 ≠ K.gQ := fun e => h.qn (by simp [RK.blocks, e])
  have hQl : Q0 < W.heap.size := h.box.lt
  have hnd := h.st.nd
  have ne : ∀ b ∈ K.gP :: K.gN :: K.gU :: K.gL :: K.hs, b ≠ K.gQ := fun b hm e => by
    subst e
    simp only [RK.blocks, List.nodup_cons, List.mem_cons, not_or] at hnd hm
    obtain ⟨⟨a1, a2, a3, a4, a5⟩, ⟨b1, b2, b3, b4⟩, ⟨c1, c2, c3⟩, ⟨d1, d2⟩, e1, f1⟩ := hnd
    rcases hm with hm | hm | hm | hm | hm
    · exact a3 hm.symm
    · exact b2 hm.symm
    · exact c1 hm.symm
    · exact d1 hm
    · exact d2 hm
  have far : ∀ {b : Nat} {ys : List Value}, Row W b ys → b ≠ K.gQ → Row (W'.setCell ⟨K.gQ, n, none⟩ (.slice (some ⟨g, 0, none⟩) x.length c)) b ys := fun hr hne => (hr.below hb).apart K.gQ n _ hne
  have hnh : n < K.hs.length := by rw [h.st.hh]; exact hn
  have hnt : n < K.tq.length := by
    obtain ⟨c', hc'⟩ := h.st.tqs n _ _ (List.getElem?_eq_getElem hnh) (List.getElem?_eq_getElem hn)
    exact (List.getElem?_eq_some_iff.1 hc').1
  have hbl : ∀ b, b ∈ RK.blocks { K with hs := K.hs.set n g, tq := K.tq.set n (.slice (some ⟨g, 0, none⟩) x.length c) } → b ∈ K.blocks ∨ b = g := fun b hm => by
    simp only [RK.blocks, List.mem_cons] at hm ⊢
    rcases hm with hm | hm | hm | hm | hm | hm
    · simp [hm]
    · simp [hm]
    · simp [hm]
    · simp [hm]
    · simp [hm]
    · rcases mem_set hm with rfl | hm
      · exact .inr rfl
      · simp [hm]
  have gn : g ∉ K.blocks := fun hm => by have := hlt g hm; omega
  have hV : V.heap.size ≤ W.heap.size := h.low.size
  refine ⟨?_, ⟨?_, ?_, ?_, ?_⟩, ⟨far h.rx.rP (ne _ (by simp)), far h.rx.rN (ne _ (by simp)), far h.rx.rU (ne _ (by simp)), ?_, ?_, far h.rx.rL (ne _ (by simp))⟩, ?_, h.q0, ?_⟩
  · have := far h.box hQ0
    simpa using this
  · simp [h.st.hh]
  · intro i y ms h1 h2
    dsimp only at h1 h2 ⊢
    by_cases e : i = n
    · subst e
      rw [List.getElem?_set_self hnh] at h1
      rw [List.getElem?_set_self hn] at h2
      cases h1; cases h2
      exact ⟨c, List.getElem?_set_self hnt⟩
    · rw [List.getElem?_set_ne (fun e' => e e'.symm)] at h1 h2
      obtain ⟨c', hc'⟩ := h.st.tqs i y ms h1 h2
      exact ⟨c', by rw [List.getElem?_set_ne (fun e' => e e'.symm)]; exact hc'⟩
  · intro b hm
    rw [World.size_setCell]
    rcases hbl b hm with hm | rfl
    · have := hrg b hm; have := hb.size; omega
    · omega
  · have e1 : RK.blocks { K with hs := K.hs.set n g, tq := K.tq.set n (.slice (some ⟨g, 0, none⟩) x.length c) } = K.blocks.set (n + 5) g := rfl
    rw [e1]
    exact nodup_set hnd gn
  · exact (h.rx.rQ.below hb).set n hnt _
  · intro i y ms h1 h2
    dsimp only at h1 h2
    by_cases e : i = n
    · subst e
      rw [List.getElem?_set_self hnh] at h1
      rw [List.getElem?_set_self hn] at h2
      cases h1; cases h2
      exact hg.apart K.gQ i _ (fun e => by have := hlt K.gQ (by simp [RK.blocks]); omega)
    · rw [List.getElem?_set_ne (fun e' => e e'.symm)] at h1 h2
      exact far (h.rx.each i y ms h1 h2) (ne _ (by simp [List.mem_of_getElem? h1]))
  · exact (below_then h.low hb).setCell (p := ⟨K.gQ, n, none⟩) (by have := hrg K.gQ (by simp [RK.blocks]); exact this.1) _
  · intro hm
    rcases hbl _ hm with hm | e
    · exact h.qn hm
    · omega
/-- The licences' profile changed behind all others. -/
theorem RStat.lics2 {R : Rm} {K : RK} {B T B' T' gL c : Nat} {L : List Nd} (h : RStat R K B T) (hB : B' ≤ B) (hT : T ≤ gL) (hBg : B' ≤ gL) (hg : gL < T') : RStat { R with lic := L } { K with gL := gL, cL := c } B' T' := by
  have hnd := h.nd
  have hrg := h.rng
  have hne : ∀ b ∈ K.blocks, gL ≠ b := fun b hb e => by have := hrg b hb; omega
  refine ⟨h.hh, h.tqs, fun b hb => ?_, ?_⟩
  · simp only [RK.blocks, List.mem_cons] at hb
    rcases hb with rfl | rfl | rfl | rfl | rfl | hb
    · have := hrg K.gP (by simp [RK.blocks]); omega
    · have := hrg K.gN (by simp [RK.blocks]); omega
    · have := hrg K.gU (by simp [RK.blocks]); omega
    · have := hrg K.gQ (by simp [RK.blocks]); omega
    · omega
    · have := hrg b (by simp [RK.blocks, hb]); omega
  · simp only [RK.blocks, List.nodup_cons, List.mem_cons, not_or] at hnd ⊢
    obtain ⟨⟨a1, a2, a3, a4, a5⟩, ⟨b1, b2, b3, b4⟩, ⟨c1, c2, c3⟩, ⟨d1, d2⟩, e1, f1⟩ := hnd
    have m1 := hne K.gP (by simp [RK.blocks])
    have m2 := hne K.gN (by simp [RK.blocks])
    have m3 := hne K.gU (by simp [RK.blocks])
    have m4 := hne K.gQ (by simp [RK.blocks])
    exact ⟨⟨a1, a2, a3, fun e => m1 e.symm, a5⟩, ⟨b1, b2, fun e => m2 e.symm, b4⟩, ⟨c1, fun e => m3 e.symm, c3⟩, ⟨fun e => m4 e.symm, d2⟩, fun hm => hne gL (by simp [RK.blocks, hm]) rfl, f1⟩

/-- .. put into the box. -/
theorem CpM.lics {V W W' : World} {R : Rm} {K : RK} {Q0 : Nat} (h : CpM V W R K Q0) (hb : Below W.heap.size W W') {g c : Nat} {L : List Nd} (hg : Row W' g (flat L)) (hgW : W.heap.size ≤ g) :
    CpM V (W'.setCell ⟨Q0, 4, none⟩ (.slice (some ⟨g, 0, none⟩) L.length c)) { R with lic := L } { K with gL := g, cL := c } Q0 := by
  have hrg := h.st.rng
  have hV : V.heap.size ≤ W.heap.size := h.low.size
  have hQl : Q0 < W.heap.size := h.box.lt
  have far : ∀ {b : Nat} {ys : List Value}, Row W b ys → b ∈ K.blocks → Row (W'.setCell ⟨Q0, 4, none⟩ (.slice (some ⟨g, 0, none⟩) L.length c)) b ys := fun hr hm => (hr.below hb).apart Q0 4 _ (fun e => h.qn (e ▸ hm))
  refine ⟨?_, h.st.lics2 (Nat.le_refl _) hgW (by omega) ?_, ⟨far h.rx.rP (by simp [RK.blocks]), far h.rx.rN (by simp [RK.blocks]), far h.rx.rU (by simp [RK.blocks]), far h.rx.rQ (by simp [RK.blocks]), fun i x ns h1 h2 => far (h.rx.each i x ns h1 h2) (mem_bl h1), hg.apart Q0 4 _ (by omega)⟩, ?_, h.q0, ?_⟩
  · exact (h.box.below hb).set 4 (by simp) _
  · rw [World.size_setCell]; exact hg.lt
  · exact (below_then h.low hb).setCell (p := ⟨Q0, 4, none⟩) h.q0 _
  · intro hm
    have hq := h.qn
    simp only [RK.blocks, List.mem_cons, not_or] at hm hq
    obtain ⟨q1, q2, q3, q4, q5, q6⟩ := hq
    rcases hm with hm | hm | hm | hm | hm | hm
    · exact q1 hm
    · exact q2 hm
    · exact q3 hm
    · exact q4 hm
    · omega
    · exact q6 hm
end Go.Proofs.YtmpjebkjopfejaaGreat
