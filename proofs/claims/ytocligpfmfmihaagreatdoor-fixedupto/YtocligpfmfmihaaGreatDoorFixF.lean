import Derived.Test.YtocligpfmfmihaaGreatDoorJf
namespace Go.Proofs.YtocligpfmfmihaaGreatDoor.fixed
open Go
theorem f1 : (Rows.fixedUptoRow.inPlace == Tryz.pinned.checked.prog.inPlace 11) = true := by kernel_rfl
theorem f2 : (Rows.fixedUptoRow.unfollowed == Tryz.pinned.checked.prog.unfollowed 11) = true := by kernel_rfl
theorem f3 : (Rows.fixedUptoRow.recurses == Tryz.pinned.checked.prog.recurses 11) = true := by kernel_rfl
theorem f4 : (Rows.fixedUptoRow.named == Tryz.pinned.checked.prog.varsNamed 11) = true := by kernel_rfl
theorem j7 : (Rows.fixedUptoRow.lifted == Tryz.pinned.checked.prog.liftsFinal) = true := jf7
theorem j8 : (Tryz.pinned.checked.prog.make == some Rows.fixedUptoRow.make) = true := jf8
theorem j9 : (Rows.fixedUptoRow.plainKeys == Tryz.pinned.checked.prog.plainKeys) = true := jf9
theorem closed : joinedFacts Tryz.pinned.checked.prog 11 Tryz.f11 (Rows.OpenSpec.upto Rows.fixedSpec).bare Rows.fixedUptoRow = true := by
  unfold joinedFacts
  rw [jf1, jf2, jf3, jf4, jf5, jf6, j7, j8, j9, f1, f2, f3, f4]
  kernel_rfl
end Go.Proofs.YtocligpfmfmihaaGreatDoor.fixed
