import Derived.Test.YtocligpfmfmihaaGreatDoorMidG
import Derived.Test.YtocligpfmfmihaaGreatDoorRn3G
import Derived.Test.YtocligpfmfmihaaGreatDoorPn12G
namespace Go.Proofs.YtocligpfmfmihaaGreatDoor
open Go Go.RowKit Go.Maps
attribute [local go_sem] Oper.semAt_some
end Go.Proofs.YtocligpfmfmihaaGreatDoor
namespace Go.Proofs.YtocligpfmfmihaaGreatDoor
open Go Go.RowKit Go.Maps
attribute [local go_sem] Oper.semAt_some
def rpC (r : Rpl) : List Value := [.string ⟨r.src.toArray⟩, .string ⟨r.srv.toArray⟩, .string ⟨r.text.toArray⟩, .bool r.fails]
def RpI (w : World) (rs : List Rpl) (ra : Option Addr) : Prop := ∀ j r, rs[j]? = some r → ∃ g o, ra = some ⟨g, o, none⟩ ∧ ∀ m u, (rpC r)[m]? = some u → w.cell? ⟨g, o + j * 4 + m, none⟩ = some u
theorem RpI.cells {w : World} {rs : List Rpl} {ra : Option Addr} (h : RpI w rs ra) {j : Nat} {r : Rpl} (hr : rs[j]? = some r) : ∃ g o, ra = some ⟨g, o, none⟩ ∧ w.cell? ⟨g, o + j * 4, none⟩ = some (.string ⟨r.src.toArray⟩) ∧ w.cell? ⟨g, o + j * 4 + 1, none⟩ = some (.string ⟨r.srv.toArray⟩) ∧ w.cell? ⟨g, o + j * 4 + 2, none⟩ = some (.string ⟨r.text.toArray⟩) ∧ w.cell? ⟨g, o + j * 4 + 3, none⟩ = some (.bool r.fails) := by
 obtain ⟨g, o, h1, h2⟩ := h j r hr
 exact ⟨g, o, h1, h2 0 _ rfl, h2 1 _ rfl, h2 2 _ rfl, h2 3 _ rfl⟩
def isR (a b : Bs) (r : Rpl) : Bool := decide (r.src = a) && decide (r.srv = b)
theorem fet_hit {rs : List Rpl} {a b : Bs} {n : Nat} {r : Rpl} (hr : rs[n]? = some r) (he : isR a b r = true) (h : ∀ (j : Nat) (q : Rpl), j < n → rs[j]? = some q → isR a b q = false) : fetF rs a b = if r.fails then none else some r.text := by
 have : rs.find? (isR a b) = some r := by
  obtain ⟨x, h1, h2, h3⟩ := ix_some (ix_hit hr he h)
  rw [hr] at h1
  injection h1 with h1
  subst h1
  exact h3
 unfold fetF
 show (rs.find? (isR a b)).bind _ = _
 rw [this]
 rfl
theorem fet_miss {rs : List Rpl} {a b : Bs} (h : ∀ (j : Nat) (q : Rpl), j < rs.length → rs[j]? = some q → isR a b q = false) : fetF rs a b = none := by
 have : rs.find? (isR a b) = none := by
  rw [List.find?_eq_none]
  intro x hx
  obtain ⟨j, hj, he⟩ := List.mem_iff_getElem.1 hx
  have := h j x hj (by rw [List.getElem?_eq_getElem hj, he])
  simp [this]
 unfold fetF
 show (rs.find? (isR a b)).bind _ = _
 rw [this]
 rfl
theorem pair_facts {w : World} {b : Nat} {x y : Value} {T : TypeId} (h : w.heap[b]? = some (.cells #[x, y] T)) : (w.cell? ⟨b, 0, none⟩ = some x ∧ w.cell? ⟨b, 1, none⟩ = some y) ∧ w.frozen? ⟨b, 0, none⟩ = false ∧ w.frozen? ⟨b, 1, none⟩ = false := by
 refine ⟨⟨?_, ?_⟩, ?_, ?_⟩ <;> simp [World.cell?, World.frozen?, h]
theorem set_pair {w : World} {b : Nat} {x y p q : Value} {T : TypeId} (h : w.heap[b]? = some (.cells #[x, y] T)) : ((w.setCell ⟨b, 0, none⟩ p).setCell ⟨b, 1, none⟩ q).heap[b]? = some (.cells #[p, q] T) := by
 simp [World.setCell, Array.getElem?_modify, h]
theorem set_kp {w w6 : World} {b : Nat} {p q : Value} (h : Kp (fun _ => False) w w6) (hb : w.heap.size ≤ b) : Kp (fun _ => False) w ((w6.setCell ⟨b, 0, none⟩ p).setCell ⟨b, 1, none⟩ q) :=
 Kp.setCell (p := ⟨b, 1, none⟩) (Kp.setCell (p := ⟨b, 0, none⟩) h (fun e => absurd e (Nat.not_lt.2 hb)) _) (fun e => absurd e (Nat.not_lt.2 hb)) _
def outV (o : Nat × Bs) : Value := .agg #[.int .i64 (o.1 : Int), .string ⟨o.2.toArray⟩]
end Go.Proofs.YtocligpfmfmihaaGreatDoor
