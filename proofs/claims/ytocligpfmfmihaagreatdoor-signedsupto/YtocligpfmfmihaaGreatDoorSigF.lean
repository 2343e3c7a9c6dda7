import Derived.Test.YtocligpfmfmihaaGreatDoorJf
namespace Go.Proofs.YtocligpfmfmihaaGreatDoor.signeds
open Go
theorem f1 : (Rows.signedsUptoRow.inPlace == Tryz.pinned.checked.prog.inPlace 5) = true := by kernel_rfl
theorem f2 : (Rows.signedsUptoRow.unfollowed == Tryz.pinned.checked.prog.unfollowed 5) = true := by kernel_rfl
theorem f3 : (Rows.signedsUptoRow.recurses == Tryz.pinned.checked.prog.recurses 5) = true := by kernel_rfl
theorem f4 : (Rows.signedsUptoRow.named == Tryz.pinned.checked.prog.varsNamed 5) = true := by kernel_rfl
theorem j7 : (Rows.signedsUptoRow.lifted == Tryz.pinned.checked.prog.liftsFinal) = true := jf7
theorem j8 : (Tryz.pinned.checked.prog.make == some Rows.signedsUptoRow.make) = true := jf8
theorem j9 : (Rows.signedsUptoRow.plainKeys == Tryz.pinned.checked.prog.plainKeys) = true := jf9
theorem closed : joinedFacts Tryz.pinned.checked.prog 5 Tryz.f5 (Rows.OpenSpec.upto Rows.signedsSpec).bare Rows.signedsUptoRow = true := by
  unfold joinedFacts
  rw [jf1, jf2, jf3, jf4, jf5, jf6, j7, j8, j9, f1, f2, f3, f4]
  kernel_rfl
end Go.Proofs.YtocligpfmfmihaaGreatDoor.signeds
