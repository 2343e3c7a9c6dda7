import Derived.Test.YtocligpfmfmihaaGreatDoorJf
namespace Go.Proofs.YtocligpfmfmihaaGreatDoor.ordered
open Go
theorem f1 : (Rows.orderedRow.inPlace == Tryz.pinned.checked.prog.inPlace 12) = true := by kernel_rfl
theorem f2 : (Rows.orderedRow.unfollowed == Tryz.pinned.checked.prog.unfollowed 12) = true := by kernel_rfl
theorem f3 : (Rows.orderedRow.recurses == Tryz.pinned.checked.prog.recurses 12) = true := by kernel_rfl
theorem f4 : (Rows.orderedRow.named == Tryz.pinned.checked.prog.varsNamed 12) = true := by kernel_rfl
theorem closed : joinedFacts Tryz.pinned.checked.prog 12 Tryz.f12 Rows.orderedSpec Rows.orderedRow = true := by
  unfold joinedFacts
  rw [jf1, jf2, jf3, jf4, jf5, jf6, jf7, jf8, jf9, f1, f2, f3, f4]
  kernel_rfl
end Go.Proofs.YtocligpfmfmihaaGreatDoor.ordered
