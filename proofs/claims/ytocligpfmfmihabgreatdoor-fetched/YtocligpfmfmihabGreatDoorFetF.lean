import Derived.Test.YtocligpfmfmihabGreatDoorJf
namespace Go.Proofs.YtocligpfmfmihabGreatDoor.fetched
open Go
theorem f1 : (Rows.fetchedRow.inPlace == Tryz.pinned.checked.prog.inPlace 3) = true := by kernel_rfl
theorem f2 : (Rows.fetchedRow.unfollowed == Tryz.pinned.checked.prog.unfollowed 3) = true := by kernel_rfl
theorem f3 : (Rows.fetchedRow.recurses == Tryz.pinned.checked.prog.recurses 3) = true := by kernel_rfl
theorem f4 : (Rows.fetchedRow.named == Tryz.pinned.checked.prog.varsNamed 3) = true := by kernel_rfl
theorem j7 : (Rows.fetchedRow.lifted == Tryz.pinned.checked.prog.liftsFinal) = true := jf7
theorem j8 : (Tryz.pinned.checked.prog.make == some Rows.fetchedRow.make) = true := jf8
theorem j9 : (Rows.fetchedRow.plainKeys == Tryz.pinned.checked.prog.plainKeys) = true := jf9
theorem closed : joinedFacts Tryz.pinned.checked.prog 3 Tryz.f3 Rows.fetchedSpec Rows.fetchedRow = true := by
  unfold joinedFacts
  rw [jf1, jf2, jf3, jf4, jf5, jf6, j7, j8, j9, f1, f2, f3, f4]
  kernel_rfl
end Go.Proofs.YtocligpfmfmihabGreatDoor.fetched
