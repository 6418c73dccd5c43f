/- How long the answers are. -/
import Derived.Test.YtpjfampfhofeaaaShF
import Derived.Test.YtpjfampfhofeaaaShD
namespace Go.Proofs.Ytpjfampfhofeaaa

theorem lenCharge (l : List Ac) (s : ByteArray) (n : Int) : (chR l s n).length = l.length := by simp [chR, chL]
theorem lenFade {l : List Ac} (hl : l.length ≤ 1048576) : (fdL l).length ≤ 1048576 := by
  unfold fdL
  split
  · rw [List.length_map]; exact hl
  · simp
theorem lenRanks {l : List Ac} (hl : l.length ≤ 1048576) : (rkL l).length ≤ 1048576 := by
  unfold rkL
  split
  · rw [List.length_map]; exact hl
  · simp
end Go.Proofs.Ytpjfampfhofeaaa
