import Derived.Test.YtocligpfmfmihaaGreatDoorRef16
import Derived.Test.YtocligpfmfmihaaGreatDoorRd3G
import Derived.Test.YtocligpfmfmihaaGreatDoorRef4G
import Derived.Laws.Cover4
namespace Go.Proofs.YtocligpfmfmihaaGreatDoor
open Go Go.RowKit Go.Maps
theorem vkp {w w' : World} {b kind : Nat} {n : Int} {t : Bs} {K L : Value} (h : w.heap[b]? = some (vCells kind n t K L)) (hk : Kp (fun _ => False) w w') : w'.heap[b]? = some (vCells kind n t K L) := (hk.block b (lt_heap h) (by simp)).trans h
theorem joinC_le (l : List Bs) : ∀ n, (joinC (l.take n)).length ≤ (joinC l).length ∧ ∀ x ∈ l, x.length ≤ (joinC l).length := by
 intro n
 constructor
 ·induction l generalizing n with
  | nil => simp
  | cons a l ih =>
   cases n with
   | zero => simp [joinC]
   | succ n =>
    cases l with
    | nil => simp [joinC]
    | cons b l =>
     cases n with
     | zero => simp [joinC]
     | succ n =>
      have := ih (n + 1)
      simp only [List.take_succ_cons, joinC, List.length_append, List.length_cons] at this ⊢
      omega
 ·induction l with
  | nil => intro x hx; cases hx
  | cons a l ih =>
   intro x hx
   cases l with
   | nil =>
    simp at hx
    subst hx
    simp [joinC]
   | cons b l =>
    rcases List.mem_cons.1 hx with rfl | hx
    ·simp [joinC]
    ·have := ih x hx
     simp only [joinC, List.length_append, List.length_cons] at this ⊢
     omega
end Go.Proofs.YtocligpfmfmihaaGreatDoor
namespace Go.Proofs.YtocligpfmfmihaaGreatDoor
open Go Go.RowKit Go.Maps
end Go.Proofs.YtocligpfmfmihaaGreatDoor
namespace Go.Proofs.YtocligpfmfmihaaGreatDoor
open Go Go.RowKit Go.Maps
theorem cStr_geq (t : Bs) : t.length ≤ (cStr t).length := by
 unfold cStr
 have : t.length ≤ (t.flatMap cB).length := by
  induction t with
  | nil => simp
  | cons c t ih =>
   have : 1 ≤ (cB c).length := by
    unfold cB
    repeat' split
    all_goals simp
   simp only [List.flatMap_cons, List.length_append, List.length_cons]
   omega
 simp only [List.length_cons, List.length_append, List.length_nil]
 omega
end Go.Proofs.YtocligpfmfmihaaGreatDoor
namespace Go.Proofs.YtocligpfmfmihaaGreatDoor
open Go Go.RowKit
end Go.Proofs.YtocligpfmfmihaaGreatDoor
namespace Go.Proofs.YtocligpfmfmihaaGreatDoor
open Go Go.RowKit
variable {W w w' : World} {rb k : Nat} {s : ByteArray} {bad : Bool}
end Go.Proofs.YtocligpfmfmihaaGreatDoor
