import Derived.Test.YtocligpfmfmihaaGreatDoorRef27G
namespace Go.Proofs.YtocligpfmfmihaaGreatDoor
open Go Go.RowKit Go.Maps
theorem flat_at (ks : List Ky) (i : Nat) (k : Ky) (h : ks[i]? = some k) (f : Nat) (hf : f < 4) : (ks.flatMap kyC)[i * 4 + f]? = (kyC k)[f]? := by
 induction ks generalizing i with
 | nil => cases h
 | cons a l ih =>
  cases i with
  | zero =>
   simp at h
   subst h
   rw [List.flatMap_cons, List.getElem?_append_left (by simp [kyC]; omega)]
   simp
  | succ i =>
   rw [List.flatMap_cons, List.getElem?_append_right (by simp [kyC]; omega)]
   have : (i + 1) * 4 + f - (kyC a).length = i * 4 + f := by simp [kyC]; omega
   rw [this]
   exact ih i (by simpa using h)
theorem ky_cells {w : World} {B : Nat} {g n c : Nat} {ks : List Ky} (h : w.ownsRow B 35 4 (.slice (some ⟨g, 0, none⟩) n c) n (ks.flatMap kyC)) (i : Nat) (k : Ky) (hk : ks[i]? = some k) :
  w.cell? ⟨g, i * 4, none⟩ = some (.string ⟨k.id.toArray⟩) ∧ w.cell? ⟨g, i * 4 + 1, none⟩ = some (.string ⟨k.key.toArray⟩) ∧ w.cell? ⟨g, i * 4 + 2, none⟩ = some (.bool k.old) ∧ w.cell? ⟨g, i * 4 + 3, none⟩ = some (.int .i64 k.till) := by
 have hc := h.cells (g := g) rfl
 have q : ∀ f u, f < 4 → (kyC k)[f]? = some u → w.cell? ⟨g, i * 4 + f, none⟩ = some u := by
  intro f u hf hu
  have := hc (i * 4 + f) u (by rw [flat_at ks i k hk f hf]; exact hu)
  rw [Addr.add_lit] at this
  simpa using this
 exact ⟨q 0 _ (by omega) rfl, q 1 _ (by omega) rfl, q 2 _ (by omega) rfl, q 3 _ (by omega) rfl⟩
theorem own_slice4 {w : World} {B : Nat} {e : TypeId} {v : Value} {n : Nat} {xs : List Value} (h : w.ownsRow B e 4 v n xs) : ∃ a c, v = .slice a n c ∧ (0 < n → ∃ g, a = some ⟨g, 0, none⟩ ∧ g < w.heap.size) := by
 have h2 := h
 obtain ⟨_, ⟨rfl, rfl⟩ | ⟨g, cap, cur, rfl, _⟩⟩ := h
 ·exact ⟨_, _, rfl, fun h => absurd h (by omega)⟩
 ·exact ⟨_, _, rfl, fun _ => ⟨g, rfl, (h2.lt g rfl).2⟩⟩
theorem ofL_lenK (ks : List Ky) (h : (ks.map (·.id)).Nodup) : ((ofL (ks.map fun k => (k.id, k))).map (·.2)).length = ks.length := by
 have hn : Nod (ks.map fun k => (k.id, k)) := by
  unfold Nod
  rw [List.map_map]
  exact h
 have := congrArg List.length (ordIx_ofL _ hn ks.length (by simp))
 rw [List.length_map, List.length_map, ordIx_len, List.take_of_length_le (by simp)] at this
 rw [List.length_map]
 exact this.symm
end Go.Proofs.YtocligpfmfmihaaGreatDoor
namespace Go.Proofs.YtocligpfmfmihaaGreatDoor
open Go Go.RowKit Go.Maps
theorem own_base {w : World} {B B' : Nat} {e : TypeId} {sz n : Nat} {v : Value} {xs : List Value} (hb : B ≤ B') (h : w.ownsRow B' e sz v n xs) : w.ownsRow B e sz v n xs := by
 obtain ⟨h1, h2⟩ := h
 refine ⟨h1, ?_⟩
 rcases h2 with h2 | ⟨g, cap, cur, rfl, hg, r⟩
 ·exact Or.inl h2
 ·exact Or.inr ⟨g, cap, cur, rfl, Nat.le_trans hb hg, r⟩
end Go.Proofs.YtocligpfmfmihaaGreatDoor
namespace Go.Proofs.YtocligpfmfmihaaGreatDoor
open Go Go.RowKit Go.Maps
end Go.Proofs.YtocligpfmfmihaaGreatDoor
namespace Go.Proofs.YtocligpfmfmihaaGreatDoor
open Go.Lib
theorem insK_perm {α : Type} (k : Bs) (v : α) : ∀ (l : List (Bs × α)), lookK k l = none → (insK k v l).Perm ((k, v) :: l)
 | [], _ => List.Perm.refl _
 | (a, x) :: l, h => by
  have hne : a ≠ k := by
   intro e
   simp [lookK, e] at h
  have h' : lookK k l = none := by simpa [lookK, hne] using h
  unfold insK
  split
  ·exact List.Perm.refl _
  ·exact ((insK_perm k v l h').cons (a, x)).trans (List.Perm.swap _ _ _)
theorem ofL_perm_self {α : Type} (m : List (Bs × α)) (h : Nod m) : (ofL m).Perm m := by
 have : ∀ n (m : List (Bs × α)), m.length = n → Nod m → (ofL m).Perm m := by
  intro n
  induction n with
  | zero => intro m hm _; obtain rfl := List.eq_nil_of_length_eq_zero hm; exact List.Perm.refl _
  | succ n ih =>
   intro m hm hn
   have hne : m ≠ [] := by intro e; subst e; simp at hm
   obtain ⟨l, p, rfl⟩ : ∃ l p, m = l ++ [p] := ⟨m.dropLast, m.getLast hne, (List.dropLast_concat_getLast hne).symm⟩
   obtain ⟨a, x⟩ := p
   obtain ⟨h1, h2⟩ := (nod_snoc l a x).1 hn
   rw [ofL_snoc]
   have hl : lookK a (ofL l) = none := by rw [lookK_ofL _ _ h1]; exact h2
   refine (insK_perm a x _ hl).trans ?_
   refine ((ih l (by simpa using hm) h1).cons (a, x)).trans ?_
   exact (List.perm_append_singleton (a, x) l).symm
 exact this m.length m rfl h
theorem ofL_perm {α : Type} {a b : List (Bs × α)} (h : a.Perm b) (hn : Nod a) : ofL a = ofL b := by
 have hnb : Nod b := by
  unfold Nod at *
  exact ((h.map _).nodup_iff).1 hn
 have hp : (ofL a).Perm (ofL b) := ((ofL_perm_self a hn).trans h).trans (ofL_perm_self b hnb).symm
 refine List.Perm.eq_of_pairwise ?_ (srt_ofL a) (srt_ofL b) hp
 intro x y _ _ h1 h2
 exact absurd (lt_tr h1 h2) (lt_irr _)
end Go.Proofs.YtocligpfmfmihaaGreatDoor
namespace Go.Proofs.YtocligpfmfmihaaGreatDoor
open Go Go.RowKit Go.Maps
theorem dfacts {w : World} {q : Nat} {a b c : Value} {T : TypeId} (h : w.heap[q]? = some (.cells #[a, b, c] T)) : w.cell? ⟨q, 0, none⟩ = some a ∧ w.cell? ⟨q, 1, none⟩ = some b ∧ w.cell? ⟨q, 2, none⟩ = some c ∧
  w.frozen? ⟨q, 0, none⟩ = false ∧ w.frozen? ⟨q, 1, none⟩ = false ∧ w.frozen? ⟨q, 2, none⟩ = false ∧ q < w.heap.size := by
 refine ⟨?_, ?_, ?_, ?_, ?_, ?_, lt_heap h⟩ <;> simp [World.cell?, World.frozen?, h]
theorem set3 {w : World} {q : Nat} {x y z a b c : Value} {T : TypeId} (h : w.heap[q]? = some (.cells #[x, y, z] T)) : (((w.setCell ⟨q, 0, none⟩ a).setCell ⟨q, 1, none⟩ b).setCell ⟨q, 2, none⟩ c).heap[q]? = some (.cells #[a, b, c] T) := by
 simp [World.setCell, Array.getElem?_modify, h]
theorem kp3 {w w6 : World} {a b c : Value} (h : Kp (fun _ => False) w w6) : Kp (fun _ => False) w (((w6.setCell ⟨w.heap.size, 0, none⟩ a).setCell ⟨w.heap.size, 1, none⟩ b).setCell ⟨w.heap.size, 2, none⟩ c) :=
 Kp.setCell (p := ⟨w.heap.size, 2, none⟩) (Kp.setCell (p := ⟨w.heap.size, 1, none⟩) (Kp.setCell (p := ⟨w.heap.size, 0, none⟩) h (fun q => absurd q (Nat.lt_irrefl _)) _) (fun q => absurd q (Nat.lt_irrefl _)) _) (fun q => absurd q (Nat.lt_irrefl _)) _
end Go.Proofs.YtocligpfmfmihaaGreatDoor
