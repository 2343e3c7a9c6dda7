import Derived.Test.YtocligpfmfmihaaGreatDoorJf
namespace Go.Proofs.YtocligpfmfmihaaGreatDoor.learns
open Go
theorem f1 : (Rows.learnsUptoRow.inPlace == Tryz.pinned.checked.prog.inPlace 7) = true := by kernel_rfl
theorem f2 : (Rows.learnsUptoRow.unfollowed == Tryz.pinned.checked.prog.unfollowed 7) = true := by kernel_rfl
theorem f3 : (Rows.learnsUptoRow.recurses == Tryz.pinned.checked.prog.recurses 7) = true := by kernel_rfl
theorem f4 : (Rows.learnsUptoRow.named == Tryz.pinned.checked.prog.varsNamed 7) = true := by kernel_rfl
theorem j7 : (Rows.learnsUptoRow.lifted == Tryz.pinned.checked.prog.liftsFinal) = true := jf7
theorem j8 : (Tryz.pinned.checked.prog.make == some Rows.learnsUptoRow.make) = true := jf8
theorem j9 : (Rows.learnsUptoRow.plainKeys == Tryz.pinned.checked.prog.plainKeys) = true := jf9
theorem closed : joinedFacts Tryz.pinned.checked.prog 7 Tryz.f7 (Rows.OpenSpec.upto Rows.learnsSpec).bare Rows.learnsUptoRow = true := by
 unfold joinedFacts
 rw [jf1, jf2, jf3, jf4, jf5, jf6, j7, j8, j9, f1, f2, f3, f4]
 kernel_rfl
end Go.Proofs.YtocligpfmfmihaaGreatDoor.learns
