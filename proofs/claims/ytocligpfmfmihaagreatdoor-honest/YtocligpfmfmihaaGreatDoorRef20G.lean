import Derived.Test.YtocligpfmfmihaaGreatDoorRef17G
import Derived.Test.YtocligpfmfmihaaGreatDoorRef11G
import Derived.Test.YtocligpfmfmihaaGreatDoorCanG
import Derived.Deep.CutRange
namespace Go.Proofs.YtocligpfmfmihaaGreatDoor
open Go Go.RowKit Go.Maps
end Go.Proofs.YtocligpfmfmihaaGreatDoor
namespace Go.Proofs.YtocligpfmfmihaaGreatDoor
open Go Go.RowKit Go.Maps
def rkind : J → Nat | .null => 110 | .bool true => 116 | .bool false => 102 | .num _ => 35 | .str _ => 34 | .arr _ => 91 | .obj _ => 123
theorem RR.kind {w : World} {F : Nat → Prop} {j : J} {b : Nat} (h : RR w F j b) : ∃ n t K L, w.heap[b]? = some (vCells (rkind j) n t K L) := by
 cases h with
 | null hF h => exact ⟨_, _, _, _, h⟩
 | tt hF h => exact ⟨_, _, _, _, h⟩
 | ff hF h => exact ⟨_, _, _, _, h⟩
 | num n hn hF h => exact ⟨_, _, _, _, h⟩
 | str t hF h => exact ⟨_, _, _, _, h⟩
 | arr x L hF h => exact ⟨_, _, _, _, h⟩
 | obj x K L hF h => exact ⟨_, _, _, _, h⟩
structure BaI (lo vb : Nat) (y : List (Bs × Nat)) (K L : Value) (w : World) : Prop where
 blk : w.heap[vb]? = some (vCells 123 0 [] K L)
 rowK : w.ownsRow lo 9 1 K y.length (y.map fun p => .string ⟨p.1.toArray⟩)
 rowL : w.ownsRow lo 66 1 L y.length (y.map fun p => ptr p.2)
 ownK : ∀ k, K.ownBlock = some k → k ≠ vb
 ownL : ∀ k, L.ownBlock = some k → k ≠ vb
 kl : ∀ k, K.ownBlock = some k → L.ownBlock ≠ some k
structure BaK (lo vb : Nat) (y : List (Bs × Nat)) (a : Bs) (K L : Value) (w : World) : Prop where
 blk : w.heap[vb]? = some (vCells 123 0 [] K L)
 rowK : w.ownsRow lo 9 1 K (y.length + 1) ((y.map fun p => .string ⟨p.1.toArray⟩) ++ [.string ⟨a.toArray⟩])
 rowL : w.ownsRow lo 66 1 L y.length (y.map fun p => ptr p.2)
 ownK : ∀ k, K.ownBlock = some k → k ≠ vb
 ownL : ∀ k, L.ownBlock = some k → k ≠ vb
 kl : ∀ k, K.ownBlock = some k → L.ownBlock ≠ some k
theorem BaI.key {lo vb : Nat} {y : List (Bs × Nat)} {a : Bs} {K L K' : Value} {w5 w6 : World} (h : BaI lo vb y K L w5) (B : Kp (fun k => K.ownBlock = some k) w5 w6)
  (y1 : w6.ownsRow lo 9 1 K' (y.length + 1) ((y.map fun p => .string ⟨p.1.toArray⟩) ++ [.string ⟨a.toArray⟩])) (y3 : K'.ownBlock = K.ownBlock ∨ ∃ q, w5.heap.size ≤ q ∧ K'.ownBlock = some q) :
  BaK lo vb y a K' L (w6.setCell ⟨vb, 3, none⟩ K') := by
 have hvb := lt_heap h.blk
 have own' : ∀ k, K'.ownBlock = some k → k ≠ vb ∧ L.ownBlock ≠ some k := by
  intro k hk
  rcases y3 with e | ⟨q, hq, e⟩
  ·rw [e] at hk
   exact ⟨h.ownK k hk, h.kl k hk⟩
  ·rw [e] at hk
   injection hk with hk
   exact ⟨by omega, fun hl => by have := (h.rowL.lt k hl).2; omega⟩
 have h6 : w6.heap[vb]? = some (vCells 123 0 [] K L) := (B.block vb hvb (fun e => h.ownK _ e rfl)).trans h.blk
 refine ⟨?_, ?_, ?_, fun k hk => (own' k hk).1, h.ownL, fun k hk => (own' k hk).2⟩
 ·simp [World.setCell, Array.getElem?_modify, h6, vCells]
 ·exact ownsRow_heap y1 fun k hk => heap_set_other (own' k hk).1
 ·refine ownsRow_heap h.rowL fun k hk => ?_
  rw [heap_set_other (h.ownL k hk), B.block k (h.rowL.lt k hk).2 (fun e => h.kl k e hk)]
theorem BaK.more {lo vb b : Nat} {y : List (Bs × Nat)} {a : Bs} {K L L' : Value} {w7 w8 : World} (h : BaK lo vb y a K L w7) (B : Kp (fun k => L.ownBlock = some k) w7 w8)
  (y1 : w8.ownsRow lo 66 1 L' (y.length + 1) ((y.map fun p => ptr p.2) ++ [ptr b])) (y3 : L'.ownBlock = L.ownBlock ∨ ∃ q, w7.heap.size ≤ q ∧ L'.ownBlock = some q) :
  BaI lo vb (y ++ [(a, b)]) K L' (w8.setCell ⟨vb, 4, none⟩ L') := by
 have hvb := lt_heap h.blk
 have own' : ∀ k, L'.ownBlock = some k → k ≠ vb ∧ K.ownBlock ≠ some k := by
  intro k hk
  rcases y3 with e | ⟨q, hq, e⟩
  ·rw [e] at hk
   exact ⟨h.ownL k hk, fun e => h.kl k e hk⟩
  ·rw [e] at hk
   injection hk with hk
   exact ⟨by omega, fun e => by have := (h.rowK.lt k e).2; omega⟩
 have h8 : w8.heap[vb]? = some (vCells 123 0 [] K L) := (B.block vb hvb (fun e => h.ownL _ e rfl)).trans h.blk
 refine ⟨?_, ?_, ?_, h.ownK, fun k hk => (own' k hk).1, fun k hk e => (own' k e).2 hk⟩
 ·simp [World.setCell, Array.getElem?_modify, h8, vCells]
 ·rw [List.length_append, List.map_append]
  refine ownsRow_heap h.rowK fun k hk => ?_
  rw [heap_set_other (h.ownK k hk), B.block k (h.rowK.lt k hk).2 (fun e => h.kl k hk e)]
 ·rw [List.length_append, List.map_append]
  exact ownsRow_heap y1 fun k hk => heap_set_other (own' k hk).1
end Go.Proofs.YtocligpfmfmihaaGreatDoor
namespace Go.Proofs.YtocligpfmfmihaaGreatDoor
open Go Go.RowKit Go.Maps
end Go.Proofs.YtocligpfmfmihaaGreatDoor
namespace Go.Proofs.YtocligpfmfmihaaGreatDoor
open Go Go.RowKit Go.Maps
end Go.Proofs.YtocligpfmfmihaaGreatDoor
namespace Go.Proofs.YtocligpfmfmihaaGreatDoor
open Go Go.RowKit Go.Maps
end Go.Proofs.YtocligpfmfmihaaGreatDoor
namespace Go.Proofs.YtocligpfmfmihaaGreatDoor
open Go Go.RowKit Go.Maps
end Go.Proofs.YtocligpfmfmihaaGreatDoor
