import Derived.Test.YtocligpfmfmihaaGreatDoorRef9G
import Derived.Test.YtocligpfmfmihaaGreatDoorRef17G
namespace Go.Proofs.YtocligpfmfmihaaGreatDoor
open Go Go.RowKit Go.Maps
variable {W w w' : World} {rb k : Nat} {s : ByteArray} {bad : Bool}
structure ObI (lo vb : Nat) (x : List (Bs × J × Nat)) (K L : Value) (G : Nat → Prop) (w : World) : Prop where
 blk : w.heap[vb]? = some (vCells 123 0 [] K L)
 rowK : w.ownsRow lo 9 1 K x.length (x.map fun p => .string ⟨p.1.toArray⟩)
 rowL : w.ownsRow lo 66 1 L x.length (x.map fun p => ptr p.2.2)
 trs : ∀ a j c, (a, j, c) ∈ x → RR w G j c
 nod : Nod (x.map fun p => (p.1, p.2.1))
 old : ∀ k, G k → lo ≤ k ∧ k < w.heap.size ∧ k ≠ vb
 ownK : ∀ k, K.ownBlock = some k → ¬ G k ∧ k ≠ vb
 ownL : ∀ k, L.ownBlock = some k → ¬ G k ∧ k ≠ vb
 kl : ∀ k, K.ownBlock = some k → L.ownBlock ≠ some k
theorem ObI.kp {lo vb : Nat} {x : List (Bs × J × Nat)} {K L : Value} {G : Nat → Prop} (h : ObI lo vb x K L G w) {S : Nat → Prop} (hk : Kp S w w') (hS : ∀ k, lo ≤ k → k < w.heap.size → ¬ S k) (hlo : lo ≤ vb) : ObI lo vb x K L G w' :=
 ⟨(hk.block vb (lt_heap h.blk) (hS vb hlo (lt_heap h.blk))).trans h.blk, ownsRow_kp h.rowK hk (fun k e => by have := h.rowK.lt k e; exact hS k this.1 this.2), ownsRow_kp h.rowL hk (fun k e => by have := h.rowL.lt k e; exact hS k this.1 this.2),
  fun a j c hm => (h.trs a j c hm).frame (fun k hG => hk.block k (h.old k hG).2.1 (hS k (h.old k hG).1 (h.old k hG).2.1)) (fun _ h => h), h.nod,
  fun k hG => ⟨(h.old k hG).1, Nat.lt_of_lt_of_le (h.old k hG).2.1 hk.size, (h.old k hG).2.2⟩, h.ownK, h.ownL, h.kl⟩
theorem ObI.tree {lo vb : Nat} {x : List (Bs × J × Nat)} {K L : Value} {G : Nat → Prop} (h : ObI lo vb x K L G w) (hlo : lo ≤ vb) : RR w (fun c => lo ≤ c ∧ c < w.heap.size) (.obj (ofL (x.map fun p => (p.1, p.2.1)))) vb :=
 .obj x K L ⟨hlo, lt_heap h.blk⟩ h.blk (ownsRow_zero h.rowK) (ownsRow_zero h.rowL) (fun k hk => h.rowK.lt k hk) (fun k hk => h.rowL.lt k hk) h.nod (fun a j c hm => (h.trs a j c hm).frame (fun _ _ => rfl) (fun k hk => ⟨(h.old k hk).1, (h.old k hk).2.1⟩))
structure ObK (lo vb : Nat) (x : List (Bs × J × Nat)) (v : Bs) (K L : Value) (G : Nat → Prop) (w : World) : Prop where
 blk : w.heap[vb]? = some (vCells 123 0 [] K L)
 rowK : w.ownsRow lo 9 1 K (x.length + 1) ((x.map fun p => .string ⟨p.1.toArray⟩) ++ [.string ⟨v.toArray⟩])
 rowL : w.ownsRow lo 66 1 L x.length (x.map fun p => ptr p.2.2)
 trs : ∀ a j c, (a, j, c) ∈ x → RR w G j c
 old : ∀ k, G k → lo ≤ k ∧ k < w.heap.size ∧ k ≠ vb
 ownK : ∀ k, K.ownBlock = some k → ¬ G k ∧ k ≠ vb
 ownL : ∀ k, L.ownBlock = some k → ¬ G k ∧ k ≠ vb
 kl : ∀ k, K.ownBlock = some k → L.ownBlock ≠ some k
theorem ObI.key {lo vb : Nat} {x : List (Bs × J × Nat)} {v : Bs} {K L K' : Value} {G : Nat → Prop} {w5 w6 : World} (h : ObI lo vb x K L G w5) (B : Kp (fun k => K.ownBlock = some k) w5 w6)
  (y1 : w6.ownsRow lo 9 1 K' (x.length + 1) ((x.map fun p => .string ⟨p.1.toArray⟩) ++ [.string ⟨v.toArray⟩])) (y3 : K'.ownBlock = K.ownBlock ∨ ∃ q, w5.heap.size ≤ q ∧ K'.ownBlock = some q) :
  ObK lo vb x v K' L G (w6.setCell ⟨vb, 3, none⟩ K') := by
 have hvb := lt_heap h.blk
 have own' : ∀ k, K'.ownBlock = some k → (¬ G k ∧ k ≠ vb) ∧ L.ownBlock ≠ some k := by
  intro k hk
  rcases y3 with e | ⟨q, hq, e⟩
  ·rw [e] at hk
   exact ⟨h.ownK k hk, h.kl k hk⟩
  ·rw [e] at hk
   injection hk with hk
   refine ⟨⟨fun hg => by have := h.old k hg; omega, by omega⟩, fun hl => by have := (h.rowL.lt k hl).2; omega⟩
 have h6 : w6.heap[vb]? = some (vCells 123 0 [] K L) := (B.block vb hvb (fun e => (h.ownK _ e).2 rfl)).trans h.blk
 refine ⟨?_, ?_, ?_, ?_, ?_, fun k hk => (own' k hk).1, h.ownL, fun k hk => (own' k hk).2⟩
 ·simp [World.setCell, Array.getElem?_modify, h6, vCells]
 ·exact ownsRow_heap y1 fun k hk => heap_set_other (own' k hk).1.2
 ·refine ownsRow_heap h.rowL fun k hk => ?_
  rw [heap_set_other (h.ownL k hk).2, B.block k (h.rowL.lt k hk).2 (fun e => h.kl k e hk)]
 ·intro a j c hm
  refine (h.trs a j c hm).frame (fun k hG => ?_) (fun _ hG => hG)
  rw [heap_set_other (h.old k hG).2.2, B.block k (h.old k hG).2.1 (fun e => (h.ownK k e).1 hG)]
 ·intro k hG
  have q := h.old k hG
  have := B.size
  exact ⟨q.1, by simp [World.setCell]; omega, q.2.2⟩
theorem ObK.more {lo vb b : Nat} {x : List (Bs × J × Nat)} {v : Bs} {K L K' L' : Value} {G : Nat → Prop} {wv w5 w6 w7 w8 : World} {j : J} (h : ObK lo vb x v K' L G w7) (A4 : ObI lo vb x K L G wv)
  (ht : RR w5 (fun c => wv.heap.size ≤ c ∧ c < w5.heap.size) j b) (hnl : lookK v (x.map fun p => (p.1, p.2.1)) = none) (hf : ∀ k, wv.heap.size ≤ k → k < w5.heap.size → w7.heap[k]? = w5.heap[k]?) (hs5 : wv.heap.size ≤ w5.heap.size) (hg : w5.heap.size < w6.heap.size) (hs7 : w7.heap.size = w6.heap.size)
  (B : Kp (fun k => L.ownBlock = some k) w7 w8) (h8 : w8.heap[vb]? = some (vCells 123 0 [] K' L))
  (y1 : w8.ownsRow lo 66 1 L' (x.length + 1) ((x.map fun p => ptr p.2.2) ++ [ptr b])) (y3 : L'.ownBlock = L.ownBlock ∨ ∃ q, w6.heap.size ≤ q ∧ L'.ownBlock = some q) (_hlo : lo ≤ vb)
  (hKn : ∀ k, K'.ownBlock = some k → ¬ (wv.heap.size ≤ k ∧ k < w5.heap.size)) :
  ObI lo vb (x ++ [(v, j, b)]) K' L' (fun k => G k ∨ (wv.heap.size ≤ k ∧ k < w5.heap.size)) (w8.setCell ⟨vb, 4, none⟩ L') := by
 have hvb := lt_heap A4.blk
 have own' : ∀ k, L'.ownBlock = some k → (¬ (G k ∨ (wv.heap.size ≤ k ∧ k < w5.heap.size)) ∧ k ≠ vb) ∧ K'.ownBlock ≠ some k := by
  intro k hk
  rcases y3 with e | ⟨q, hq, e⟩
  ·rw [e] at hk
   have := (A4.rowL.lt k hk).2
   exact ⟨⟨by rintro (q | q); exact (h.ownL k hk).1 q; omega, (h.ownL k hk).2⟩, fun e => h.kl k e hk⟩
  ·rw [e] at hk
   injection hk with hk
   refine ⟨⟨?_, by omega⟩, fun e => by have := (h.rowK.lt k e).2; omega⟩
   rintro (q | q)
   ·have := (h.old k q).2.1; omega
   ·omega
 refine ⟨?_, ?_, ?_, ?_, ?_, ?_, ?_, fun k hk => (own' k hk).1, fun k hk e => (own' k e).2 hk⟩
 ·simp [World.setCell, Array.getElem?_modify, h8, vCells]
 ·rw [List.length_append, List.map_append]
  refine ownsRow_heap h.rowK fun k hk => ?_
  rw [heap_set_other (h.ownK k hk).2, B.block k (h.rowK.lt k hk).2 (fun e => h.kl k hk e)]
 ·rw [List.length_append, List.map_append]
  exact ownsRow_heap y1 fun k hk => heap_set_other (own' k hk).1.2
 ·intro a i c hm
  rcases List.mem_append.1 hm with hm | hm
  ·refine (h.trs a i c hm).frame (fun k hG => ?_) (fun k hG => Or.inl hG)
   rw [heap_set_other (h.old k hG).2.2, B.block k (h.old k hG).2.1 (fun e => (h.ownL k e).1 hG)]
  ·obtain ⟨rfl, rfl, rfl⟩ : a = v ∧ i = j ∧ c = b := by simpa using hm
   refine ht.frame (fun k hG => ?_) (fun k hG => Or.inr hG)
   rw [heap_set_other (by show k ≠ vb; omega), B.block k (by omega) (fun e => by have := (A4.rowL.lt k e).2; omega), hf k hG.1 hG.2]
 ·rw [List.map_append]
  exact (nod_snoc _ v j).2 ⟨A4.nod, hnl⟩
 ·have := B.size
  have hz : (w8.setCell ⟨vb, 4, none⟩ L').heap.size = w8.heap.size := by simp [World.setCell]
  rintro k (hG | hG)
  ·have q := h.old k hG
   exact ⟨q.1, by omega, q.2.2⟩
  ·have := (A4.rowL).1
   exact ⟨by omega, by omega, by omega⟩
 ·intro k hk
  refine ⟨?_, (h.ownK k hk).2⟩
  rintro (q | q)
  ·exact (h.ownK k hk).1 q
  ·exact hKn k hk q
end Go.Proofs.YtocligpfmfmihaaGreatDoor
