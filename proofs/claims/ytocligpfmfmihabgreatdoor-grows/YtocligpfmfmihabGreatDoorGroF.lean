import Derived.Test.YtocligpfmfmihabGreatDoorJf
namespace Go.Proofs.YtocligpfmfmihabGreatDoor.grows
open Go
theorem f1 : (Rows.growsRow.inPlace == Tryz.pinned.checked.prog.inPlace 4) = true := by kernel_rfl
theorem f2 : (Rows.growsRow.unfollowed == Tryz.pinned.checked.prog.unfollowed 4) = true := by kernel_rfl
theorem f3 : (Rows.growsRow.recurses == Tryz.pinned.checked.prog.recurses 4) = true := by kernel_rfl
theorem f4 : (Rows.growsRow.named == Tryz.pinned.checked.prog.varsNamed 4) = true := by kernel_rfl
theorem j7 : (Rows.growsRow.lifted == Tryz.pinned.checked.prog.liftsFinal) = true := jf7
theorem j8 : (Tryz.pinned.checked.prog.make == some Rows.growsRow.make) = true := jf8
theorem j9 : (Rows.growsRow.plainKeys == Tryz.pinned.checked.prog.plainKeys) = true := jf9
theorem closed : joinedFacts Tryz.pinned.checked.prog 4 Tryz.f4 Rows.growsSpec Rows.growsRow = true := by
  unfold joinedFacts
  rw [jf1, jf2, jf3, jf4, jf5, jf6, j7, j8, j9, f1, f2, f3, f4]
  kernel_rfl
end Go.Proofs.YtocligpfmfmihabGreatDoor.grows
