import Derived.Test.YtocligpfmfmihaaGreatDoorJf
namespace Go.Proofs.YtocligpfmfmihaaGreatDoor.honest
open Go
theorem f1 : (Rows.honestRow.inPlace == Tryz.pinned.checked.prog.inPlace 13) = true := by kernel_rfl
theorem f2 : (Rows.honestRow.unfollowed == Tryz.pinned.checked.prog.unfollowed 13) = true := by kernel_rfl
theorem f3 : (Rows.honestRow.recurses == Tryz.pinned.checked.prog.recurses 13) = true := by kernel_rfl
theorem f4 : (Rows.honestRow.named == Tryz.pinned.checked.prog.varsNamed 13) = true := by kernel_rfl
theorem j7 : (Rows.honestRow.lifted == Tryz.pinned.checked.prog.liftsFinal) = true := jf7
theorem j8 : (Tryz.pinned.checked.prog.make == some Rows.honestRow.make) = true := jf8
theorem j9 : (Rows.honestRow.plainKeys == Tryz.pinned.checked.prog.plainKeys) = true := jf9
theorem closed : joinedFacts Tryz.pinned.checked.prog 13 Tryz.f13 Rows.honestSpec Rows.honestRow = true := by
 unfold joinedFacts
 rw [jf1, jf2, jf3, jf4, jf5, jf6, j7, j8, j9, f1, f2, f3, f4]
 kernel_rfl
end Go.Proofs.YtocligpfmfmihaaGreatDoor.honest
