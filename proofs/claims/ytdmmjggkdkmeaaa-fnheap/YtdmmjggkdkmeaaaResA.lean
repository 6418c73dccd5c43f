/- Results that lie in boxes, told in one step. -/
import Derived.Test.YtdmmjggkdkmeaaaCmS
namespace Go.Proofs.Ytdmmjggkdkmeaaa
open Go.ChangeShapes Go.WideShapes Go.ChangeAt Go.RowKit
theorem results_one {P : Program} {fn : Func} {a : Tmp} {t : TypeId} (h : fn.results = #[.cell a t]) {tmps : Array Value} {b : Nat} (ht : tmps[a]?.getD undef = .pointer (some ⟨b, 0, none⟩)) {W : World} {v : Value} (hv : (loadVar t ⟨b, 0, none⟩).run P W = .ok v W) :
    (results fn tmps).run P W = .ok v W := by
  unfold results
  rw [h]
  simp [asAddr, ht, hv]
theorem results_two {P : Program} {fn : Func} {a a2 : Tmp} {t t2 : TypeId} (h : fn.results = #[.cell a t, .cell a2 t2]) {tmps : Array Value} {b b2 : Nat} (ht : tmps[a]?.getD undef = .pointer (some ⟨b, 0, none⟩)) (ht2 : tmps[a2]?.getD undef = .pointer (some ⟨b2, 0, none⟩)) {W : World} {v v2 : Value} (hv : (loadVar t ⟨b, 0, none⟩).run P W = .ok v W) (hv2 : (loadVar t2 ⟨b2, 0, none⟩).run P W = .ok v2 W) :
    (results fn tmps).run P W = .ok (.tuple #[v, v2]) W := by
  unfold results
  rw [h]
  simp [Sem.run_bind, asAddr, ht, ht2, hv, hv2]
theorem results_mix {P : Program} {fn : Func} {a a2 : Tmp} {t : TypeId} (h : fn.results = #[.cell a t, .tmp a2]) {tmps : Array Value} {b : Nat} (ht : tmps[a]?.getD undef = .pointer (some ⟨b, 0, none⟩)) {W : World} {v : Value} (hv : (loadVar t ⟨b, 0, none⟩).run P W = .ok v W) :
    (results fn tmps).run P W = .ok (.tuple #[v, tmps[a2]?.getD undef]) W := by
  unfold results
  rw [h]
  simp [asAddr, ht, hv]
end Go.Proofs.Ytdmmjggkdkmeaaa
