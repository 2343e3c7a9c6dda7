import Derived.Test.YtocligpfmfmihaaGreatDoorJf
namespace Go.Proofs.YtocligpfmfmihaaGreatDoor.reads
open Go
theorem f1 : (Rows.readsRow.inPlace == Tryz.pinned.checked.prog.inPlace 6) = true := by kernel_rfl
theorem f2 : (Rows.readsRow.unfollowed == Tryz.pinned.checked.prog.unfollowed 6) = true := by kernel_rfl
theorem f3 : (Rows.readsRow.recurses == Tryz.pinned.checked.prog.recurses 6) = true := by kernel_rfl
theorem f4 : (Rows.readsRow.named == Tryz.pinned.checked.prog.varsNamed 6) = true := by kernel_rfl
theorem j7 : (Rows.readsRow.lifted == Tryz.pinned.checked.prog.liftsFinal) = true := jf7
theorem j8 : (Tryz.pinned.checked.prog.make == some Rows.readsRow.make) = true := jf8
theorem j9 : (Rows.readsRow.plainKeys == Tryz.pinned.checked.prog.plainKeys) = true := jf9
theorem closed : joinedFacts Tryz.pinned.checked.prog 6 Tryz.f6 Rows.readsSpec Rows.readsRow = true := by
  unfold joinedFacts
  rw [jf1, jf2, jf3, jf4, jf5, jf6, j7, j8, j9, f1, f2, f3, f4]
  kernel_rfl
end Go.Proofs.YtocligpfmfmihaaGreatDoor.reads
