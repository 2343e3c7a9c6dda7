import Derived.Test.YtocligpfmfmihaaGreatDoorJf
namespace Go.Proofs.YtocligpfmfmihaaGreatDoor.verifies
section
open Go
theorem f1:(Rows.verifiesUptoRow.inPlace == Tryz.pinned.checked.prog.inPlace 8)=true:=by kernel_rfl
theorem f2:(Rows.verifiesUptoRow.unfollowed == Tryz.pinned.checked.prog.unfollowed 8)=true:=by kernel_rfl
theorem f3:(Rows.verifiesUptoRow.recurses == Tryz.pinned.checked.prog.recurses 8)=true:=by kernel_rfl
theorem f4:(Rows.verifiesUptoRow.named == Tryz.pinned.checked.prog.varsNamed 8)=true:=by kernel_rfl
theorem j7:(Rows.verifiesUptoRow.lifted == Tryz.pinned.checked.prog.liftsFinal)=true:=jf7
theorem j8:(Tryz.pinned.checked.prog.make == some Rows.verifiesUptoRow.make)=true:=jf8
theorem j9:(Rows.verifiesUptoRow.plainKeys == Tryz.pinned.checked.prog.plainKeys)=true:=jf9
theorem closed:joinedFacts Tryz.pinned.checked.prog 8 Tryz.f8 (Rows.OpenSpec.upto Rows.verifiesSpec).bare Rows.verifiesUptoRow=true:=by
 unfold joinedFacts;rw[jf1,jf2,jf3,jf4,jf5,jf6,j7,j8,j9,f1,f2,f3,f4];kernel_rfl
end
end Go.Proofs.YtocligpfmfmihaaGreatDoor.verifies
