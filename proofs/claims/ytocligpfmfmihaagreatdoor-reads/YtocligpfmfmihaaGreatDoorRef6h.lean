import Derived.Test.YtocligpfmfmihaaGreatDoorRef5
import Derived.Test.YtocligpfmfmihaaGreatDoorRef17G
namespace Go.Proofs.YtocligpfmfmihaaGreatDoor
open Go Go.RowKit
variable {W w w' : World} {rb k : Nat} {s : ByteArray} {bad : Bool}
/-- What number comes to. -/
def NmR (W w : World) (rb : Nat) (s : ByteArray) (o : Option (Int × Bs)) (e : Ending) (w' : World) : Prop :=
  ∃ v : Int, e = .returned (.int .i64 v) ∧ Kp (· = rb) w w' ∧ ∃ k' bad', Rs W w' rb s k' bad' ∧ match o with | some (x, r) => bad' = false ∧ v = x ∧ rest s k' = r | none => bad' = true
theorem nmR_some {o : Option (Int × Bs)} {k' : Nat} {x : Int} {r : Bs} (ho : o = some (x, r)) (hk : Kp (· = rb) w w') (hs : Rs W w' rb s k' false) (hr : rest s k' = r) : NmR W w rb s o (.returned (.int .i64 x)) w' := by
  subst ho
  exact ⟨_, rfl, hk, k', false, hs, rfl, rfl, hr⟩
theorem nmR_none {o : Option (Int × Bs)} {k' : Nat} {v : Int} (ho : o = none) (hk : Kp (· = rb) w w') (hs : Rs W w' rb s k' true) : NmR W w rb s o (.returned (.int .i64 v)) w' := by
  subst ho
  exact ⟨_, rfl, hk, k', true, hs, rfl⟩
theorem dg_no {c : UInt8} (h : ¬ (48 ≤ (c.toNat : Int) ∧ (c.toNat : Int) ≤ 57)) : isDg c = false := by
  cases hd : isDg c with
  | false => rfl
  | true => exact absurd (hexV_dg hd).2 h
theorem dg_yes {c : UInt8} (h : 48 ≤ (c.toNat : Int)) (h' : (c.toNat : Int) ≤ 57) : isDg c = true := by
  unfold isDg
  simp [UInt8.le_iff_toNat_le]
  omega
theorem dgs_stop {c : UInt8} {t : Bs} (h : isDg c = false) : dgs (c :: t) = [] := by
  simp [dgs, h]
end Go.Proofs.YtocligpfmfmihaaGreatDoor
