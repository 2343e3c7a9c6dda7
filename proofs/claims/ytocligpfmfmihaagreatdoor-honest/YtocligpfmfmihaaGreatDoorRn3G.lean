import Derived.Test.YtocligpfmfmihaaGreatDoorPn12G
import Derived.Test.YtocligpfmfmihaaGreatDoorPn8G
import Derived.Test.YtocligpfmfmihaaGreatDoorLokG
import Derived.Deep.RegionHeld
import Derived.Test.YtocligpfmfmihaaGreatDoorPr2G
namespace Go.Proofs.YtocligpfmfmihaaGreatDoor
open Go Go.RowKit Go.Maps
attribute [local go_sem] Oper.semAt_some
def RnR (w : World) (F : Nat → Prop) (b : Nat) (nm id ky : Bs) (so : Value) (st : Ldg) (c : Nat) (w' : World) : Prop := ∃ F' : Nat → Prop, Kp F w w' ∧ (∀ k, F' k → F k ∨ w.heap.size ≤ k) ∧ (∀ k, F' k → k < w'.heap.size) ∧ RN w' F' b nm id ky so st c
theorem RN.mono {w : World} {F : Nat → Prop} {b : Nat} {nm id ky : Bs} {so : Value} {st : Ldg} {c c' : Nat} (h : RN w F b nm id ky so st c) (hc : c ≤ c') : RN w F b nm id ky so st c' := by
 obtain ⟨l, d, a, L, D, A, h1, h2, h3, h4, h5, h6⟩ := h
 exact ⟨l, d, a, L, D, A, h1, h2, by omega, by omega, by omega, h6⟩
end Go.Proofs.YtocligpfmfmihaaGreatDoor
namespace Go.Proofs.YtocligpfmfmihaaGreatDoor
open Go Go.RowKit Go.Maps
theorem srt_nd {α : Type} {m : List (Bs × α)} (h : Srt m) : (m.map (·.1)).Nodup := by
 unfold List.Nodup
 rw [List.pairwise_map]
 refine List.Pairwise.imp ?_ h
 intro a b hab e
 rw [e] at hab
 exact lt_irr _ hab
theorem look_some {α : Type} {m : List (Bs × α)} (h : Srt m) {x : Bs} (hx : x ∈ m.map (·.1)) : lookK x m ≠ none := by
 obtain ⟨p, hp, rfl⟩ := List.mem_map.1 hx
 obtain ⟨j, hj, he⟩ := List.mem_iff_getElem.1 hp
 rw [look_nthJ m h j p (by rw [List.getElem?_eq_getElem hj, he])]
 simp
def capT (T : List Bs) : Nat := 1100 * T.length
theorem RN.tight {w : World} {F : Nat → Prop} {b : Nat} {nm id ky : Bs} {so : Value} {st : Ldg} {c : Nat} (h : RN w F b nm id ky so st c) {T : List Bs} (hT : LOk T st) : RN w F b nm id ky so st (capT T) := by
 obtain ⟨l, d, a, L, D, A, h1, h2, h3, h4, h5, h6⟩ := h
 refine ⟨l, d, a, L, D, A, h1, h2, ?_, ?_, ?_, h6⟩
 ·have := hT.keys_le h2.nl (by
    intro x hx
    obtain ⟨k, hk, rfl⟩ := List.mem_map.1 hx
    rw [h2.keys]
    unfold knAt
    intro e
    rw [Option.map_eq_none_iff, List.find?_eq_none] at e
    exact e k hk (isK_iff.2 ⟨rfl, rfl⟩))
  rw [List.length_map] at this
  exact this
 ·have := hT.docs_le h2.nd (by
    intro x hx
    obtain ⟨k, hk, rfl⟩ := List.mem_map.1 hx
    rw [h2.docs]
    unfold asc
    intro e
    rw [Option.map_eq_none_iff, List.find?_eq_none] at e
    exact e k hk (by simp [isS]))
  rw [List.length_map] at this
  unfold capT
  omega
 ·have := hT.asked_le h2.na (by
    intro x hx
    obtain ⟨k, hk, rfl⟩ := List.mem_map.1 hx
    rw [h2.asked]
    unfold asc
    intro e
    rw [Option.map_eq_none_iff, List.find?_eq_none] at e
    exact e k hk (by simp [isS]))
  rw [List.length_map] at this
  unfold capT
  omega
theorem KN.tight {w : World} {F : Nat → Prop} {kb : Nat} {st : Ldg} {c : Nat} (h : KN w F kb st c) {T : List Bs} (hT : LOk T st) : KN w F kb st (capT T) := by
 obtain ⟨mb, ib, sm, im, Bf, Qf, qm, h⟩ := h
 refine ⟨mb, ib, sm, im, Bf, Qf, qm, ⟨h.kblk, h.ms, h.mi, h.ss, h.si, h.look, h.vain, fun s t hs => ⟨(h.srv s t hs).1, ?_⟩, h.non, h.inj, h.off, h.mbib, ?_, ?_, h.fk, h.fm, h.fi, h.fs⟩⟩
 ·have hv := (h.srv s t hs).1
  have := hT.keys_le (l := ((qm s).map (·.1)).map fun i => (s, i)) (by
    unfold List.Nodup
    rw [List.pairwise_map]
    refine List.Pairwise.imp ?_ (srt_nd hv.srt)
    intro a b hab e
    injection e with _ e
    exact hab e) (by
    intro x hx
    obtain ⟨i, hi, rfl⟩ := List.mem_map.1 hx
    have h1 := look_some hv.srt hi
    rw [hv.look i] at h1
    intro e
    simp only [] at e
    rw [e] at h1
    exact h1 rfl)
  rw [List.length_map, List.length_map] at this
  exact this
 ·have := hT.docs_le (srt_nd h.ss) (by
    intro x hx
    have h1 := look_some h.ss hx
    rw [h.look x] at h1
    intro e
    rw [e] at h1
    exact h1 rfl)
  rw [List.length_map] at this
  unfold capT
  omega
 ·have := hT.asked_le (srt_nd h.si) (by
    intro x hx
    have h1 := look_some h.si hx
    rw [h.vain x] at h1
    intro e
    rw [e] at h1
    exact h1 rfl)
  rw [List.length_map] at this
  unfold capT
  omega
theorem PNs.tight {w : World} {F Fk : Nat → Prop} {nb kb : Nat} {nm id ky : Bs} {so : Value} {srcs : List Bs} {st : Ldg} {c : Nat} (h : PNs w F Fk nb kb nm id ky so srcs st c) {T : List Bs} (hT : LOk T st) : PNs w F Fk nb kb nm id ky so srcs st (capT T) := ⟨h.nblk, h.kn.tight hT, h.rso, h.fn, h.fso, h.fk, h.nf, h.lt⟩
end Go.Proofs.YtocligpfmfmihaaGreatDoor
