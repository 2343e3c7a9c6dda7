import Derived.Test.YtocligpfmfmihaaGreatDoorLf2G
import Derived.Lay
import Derived.LaidHandle
import Derived.Stop.Joined
namespace Go.Proofs.YtocligpfmfmihaaGreatDoor.wr
open Go

/-- The listed variables but the type's handle. -/
noncomputable def plainL : List (String × DataW Unit) := Rows.readsRow.laid.filter fun x => x.2.handleName?.isNone
/-- A world in which the handle is laid. -/
noncomputable def hWorld (os : Os) : World :=
  let w0 := World.holding Tryz.prog os ⟨#[], #[], []⟩
  { w0 with heap := w0.heap.modify 9 fun
      | .cells _ t frozen => .cells #[.iface 289 ((Value.agg #[Value.pointer (some (Addr.mk 31 61 none))]))] t frozen
      | o => o }
/-- .. and all the rest. -/
noncomputable def lWorld (os : Os) : World := (hWorld os).layVars Tryz.prog plainL
theorem lWorld_os (os : Os) : (lWorld os).os = os := World.layVars_os _ _ _
theorem wit_fits (os : Os) : (hWorld os).layFits Tryz.prog plainL [] = true := by kernel_rfl
theorem wit_ifaces (os : Os) : (hWorld os).layIfaces Tryz.prog plainL (lWorld os) = true := by kernel_rfl
theorem wit_handle (os : Os) : ((Rows.readsRow.laid.filter fun x => x.2.handleName?.isSome).all (handleAtB Tryz.prog (lWorld os))) = true := by kernel_rfl
theorem wit_laid (os : Os) : laidMetH Tryz.prog Rows.readsRow.laid (lWorld os) := by
  refine laidMetH_of_parts ?_ (wit_handle os)
  show laidMet Tryz.prog plainL (lWorld os)
  have e1 : (plainL.filter fun x => (plainL.map (·.1)).contains x.1) = plainL := List.filter_eq_self.2 fun x hx => List.contains_iff_mem.2 (List.mem_map.2 ⟨x, hx, rfl⟩)
  have e2 : (plainL.filter fun x => !(plainL.map (·.1)).contains x.1) = [] := List.filter_eq_nil_iff.2 fun x hx => by rw [List.contains_iff_mem.2 (List.mem_map.2 ⟨x, hx, rfl⟩)]; simp
  exact laidMet_layVars (w0 := hWorld os) (plainL.map (·.1)) [] (by rw [e1]; rfl) (by rw [e1]; exact wit_fits os) (by rw [e1]; exact wit_ifaces os) (by rw [e2]; exact LaidIn.none)
theorem wit_met (os : Os) (args : Array Value) : laidMetH Tryz.prog Rows.readsRow.laid ((lWorld os).forCall (fun _ _ => 0) ⟨#[], args, []⟩).memory :=
  laidMetH.of_heap (w := lWorld os) (by simp [World.memory, World.forCall, Input.heap]) (wit_laid os)
end Go.Proofs.YtocligpfmfmihaaGreatDoor.wr
