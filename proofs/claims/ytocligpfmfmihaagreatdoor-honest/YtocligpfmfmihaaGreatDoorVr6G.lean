import Derived.Test.YtocligpfmfmihaaGreatDoorVr3G
import Derived.Test.YtocligpfmfmihaaGreatDoorRn3G
namespace Go.Proofs.YtocligpfmfmihaaGreatDoor
open Go Go.RowKit Go.Maps
attribute [local go_sem] Oper.semAt_some
theorem RnR.tight {w w' : World} {F : Nat → Prop} {b : Nat} {nm id ky : Bs} {so : Value} {st : Ldg} {c : Nat} (h : RnR w F b nm id ky so st c w') {T : List Bs} (hT : LOk T st) : RnR w F b nm id ky so st (capT T) w' := by
 obtain ⟨F', h1, h2, h3, h4⟩ := h
 exact ⟨F', h1, h2, h3, h4.tight hT⟩
theorem RnR.after {w w1 w2 : World} {F F1 : Nat → Prop} {b : Nat} {nm id ky : Bs} {so : Value} {st : Ldg} {c : Nat} (K : Kp F w w1) (h1 : ∀ k, F1 k → F k ∨ w.heap.size ≤ k) (h : RnR w1 F1 b nm id ky so st c w2) : RnR w F b nm id ky so st c w2 := by
 obtain ⟨F', k1, k2, k3, k4⟩ := h
 refine ⟨F', K.and k1 (fun i hi hf => (h1 i hf).resolve_right (by omega)), ?_, k3, k4⟩
 intro k hk
 rcases k2 k hk with h | h
 ·exact h1 k h
 ·exact Or.inr (Nat.le_trans K.size h)
end Go.Proofs.YtocligpfmfmihaaGreatDoor
namespace Go.Proofs.YtocligpfmfmihaaGreatDoor
open Go Go.RowKit Go.Maps
attribute [local go_sem] Oper.semAt_some
theorem verL_step {rs : List Rpl} {now : Int} {xs : List Bs} {st : Ldg} {l : List Clm} {i n : Nat} {c : Clm} (h : l[i]? = some c) : verL rs now xs st (l.drop i) n = if (signS (oneS rs now xs st c).2 c).1 = 0 then verL rs now xs (oneS rs now xs st c).2 (l.drop (i + 1)) (n + (oneS rs now xs st c).1) else ((signS (oneS rs now xs st c).2 c, n + (oneS rs now xs st c).1), (oneS rs now xs st c).2) := by
 obtain ⟨hlt, he⟩ := List.getElem?_eq_some_iff.1 h
 rw [List.drop_eq_getElem_cons hlt, he]
 rfl
theorem ask_le (rs : List Rpl) (now : Int) (c : Clm) : ∀ (l : List Bs) (st : Ldg) (n : Nat), (askL rs now c st l n).1 ≤ n + l.length
 | [], st, n => by simp [askL]
 | a :: l, st, n => by
  simp only [askL]
  split
  ·simp only [List.length_cons]
   omega
  ·have := ask_le rs now c l (fromS rs now c.server st a).2 (n + 1)
   simp only [List.length_cons]
   omega
theorem fetch_le (rs : List Rpl) (now : Int) (xs : List Bs) (st : Ldg) (c : Clm) : (fetchS rs now xs st c).1 ≤ xs.length + 1 := by
 have h1 := ask_le rs now c (srcsF c.server xs) st 0
 have h2 : (srcsF c.server xs).length ≤ xs.length + 1 := by
  unfold srcsF
  have := List.length_filter_le (fun s => decide (s ≠ c.server)) xs
  simp only [List.length_cons]
  omega
 unfold fetchS
 split <;> simp only [] <;> omega
end Go.Proofs.YtocligpfmfmihaaGreatDoor
