import Derived.Test.YtocligpfmfmihaaGreatDoorParG
namespace Go.Proofs.YtocligpfmfmihaaGreatDoor
open Go Go.RowKit
variable {W w w' : World} {rb k : Nat} {s : ByteArray} {bad : Bool}
end Go.Proofs.YtocligpfmfmihaaGreatDoor
namespace Go.Proofs.YtocligpfmfmihaaGreatDoor
open Go Go.RowKit Go.Maps
variable {W w w' : World} {rb k : Nat} {s : ByteArray} {bad : Bool}
theorem ownsRow_zero {w : World} {B : Nat} {e : TypeId} {sz n : Nat} {v : Value} {xs : List Value} (h : w.ownsRow B e sz v n xs) : w.ownsRow 0 e sz v n xs := by
 obtain ⟨h1, h2⟩ := h
 refine ⟨h1, ?_⟩
 rcases h2 with h2 | ⟨g, cap, cur, rfl, hg, r⟩
 ·exact Or.inl h2
 ·exact Or.inr ⟨g, cap, cur, rfl, Nat.zero_le _, r⟩
theorem ArI.tree {lo vb : Nat} {x : List (J × Nat)} {L : Value} {G : Nat → Prop} (h : ArI lo vb x L G w) (hlo : lo ≤ vb) : RR w (fun c => lo ≤ c ∧ c < w.heap.size) (.arr (x.map (·.1))) vb :=
 .arr x L ⟨hlo, lt_heap h.blk⟩ h.blk (ownsRow_zero h.row) (fun k hk => h.row.lt k hk) (fun j c hm => (h.trs j c hm).frame (fun _ _ => rfl) (fun k hk => ⟨(h.old k hk).1, (h.old k hk).2.1⟩))
end Go.Proofs.YtocligpfmfmihaaGreatDoor
