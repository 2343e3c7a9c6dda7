import Derived.Test.YtocligpfmfmihabGreatDoorSgn2G
import Derived.JoinedOf
namespace Go.Proofs.YtocligpfmfmihabGreatDoor
open Go
/-! Closed facts of the program, apart: one by one the kernel has room for them. -/
theorem jf1 : laidOutB Tryz.pinned.checked.prog = true := by kernel_rfl
theorem jf2 : mapsRowed Tryz.pinned.checked.prog = true := by kernel_rfl
theorem jf3 : (Tryz.pinned.checked.prog.stops == []) = true := by kernel_rfl
theorem jf4 : (Tryz.pinned.checked.prog.stopKnobs == []) = true := by kernel_rfl
theorem jf5 : Tryz.pinned.checked.prog.stopsHeard = true := by kernel_rfl
theorem jf6 : Tryz.pinned.checked.prog.mayEnter = true := by kernel_rfl
theorem jf7 : (Rows.growsRow.lifted == Tryz.pinned.checked.prog.liftsFinal) = true := by kernel_rfl
theorem jf8 : (Tryz.pinned.checked.prog.make == some Rows.growsRow.make) = true := by kernel_rfl
theorem jf9 : (Rows.growsRow.plainKeys == Tryz.pinned.checked.prog.plainKeys) = true := by kernel_rfl
end Go.Proofs.YtocligpfmfmihabGreatDoor
