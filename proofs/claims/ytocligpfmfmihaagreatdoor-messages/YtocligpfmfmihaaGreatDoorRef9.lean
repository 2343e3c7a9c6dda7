import Derived.Test.YtocligpfmfmihaaGreatDoorRef8
namespace Go.Proofs.YtocligpfmfmihaaGreatDoor
open Go Go.RowKit Go.Maps
variable {W w w' : World} {rb k : Nat} {s : ByteArray} {bad : Bool}

theorem own_slice {w : World} {B : Nat} {e : TypeId} {v : Value} {n : Nat} {xs : List Value} (h : w.ownsRow B e 1 v n xs) : ∃ a c, v = .slice a n c := by
  obtain ⟨_, ⟨rfl, rfl⟩ | ⟨g, cap, cur, rfl, _⟩⟩ := h
  · exact ⟨_, _, rfl⟩
  · exact ⟨_, _, rfl⟩
theorem own_cell {w : World} {B : Nat} {e : TypeId} {g n c : Nat} {xs : List Value} (h : w.ownsRow B e 1 (.slice (some ⟨g, 0, none⟩) n c) n xs) (i : Nat) (u : Value) (hu : xs[i]? = some u) : w.cell? ⟨g, i, none⟩ = some u := by
  have := h.cells (g := g) rfl i u hu
  rw [Addr.add_lit] at this
  simpa using this
theorem str_eq (a b : Bs) : ((⟨a.toArray⟩ : ByteArray).toList == (⟨b.toArray⟩ : ByteArray).toList) = decide (a = b) := by
  rw [ByteArray.toList_eq, ByteArray.toList_eq, Bool.eq_iff_iff]
  simp
theorem lookK_drop {α : Type} (key : Bs) (m : List (Bs × α)) (n : Nat) (p : Bs × α) (h : m[n]? = some p) : lookK key (m.drop n) = if p.1 = key then some p.2 else lookK key (m.drop (n + 1)) := by
  obtain ⟨hlt, he⟩ := List.getElem?_eq_some_iff.1 h
  rw [List.drop_eq_getElem_cons hlt, he]
  obtain ⟨a, x⟩ := p
  rfl

set_option maxRecDepth 20000 in
set_option maxHeartbeats 1000000 in
theorem get_c {vb B C : Nat} {K L : Value} {n0 : Int} {t0 : Bs} (m : List (Bs × Nat)) (h : w.heap[vb]? = some (vCells 123 n0 t0 K L)) (hK : w.ownsRow B 9 1 K m.length (m.map fun p => .string ⟨p.1.toArray⟩))
    (hL : w.ownsRow C 66 1 L m.length (m.map fun p => ptr p.2)) (hm : m.length ≤ 700) (key : Bs) :
    Calls Tryz.prog 45 #[.pointer (some ⟨vb, 0, none⟩), .string ⟨key.toArray⟩] w fun e w' => e = .returned (.pointer ((lookK key m).map fun b => ⟨b, 0, none⟩)) ∧ w' = w := by
  obtain ⟨v0, v1, v2, v3, v4, z0, z1, z2, z3, z4, hvb⟩ := vfacts h
  cases m with
  | nil =>
    obtain ⟨a, c, rfl⟩ := own_slice hK
    go_enter Tryz.func45, Tryz.ntmps45
    go_wp2_with fail
    go_loopg [5] 1 (fun g a wr => a = .int .i64 0 ∧ wr = w ∧ g = 1)
    case atStart => exact ⟨rfl, rfl, rfl⟩
    case round =>
      obtain ⟨rfl, rfl, rfl⟩ := hrel
      go_wp2
      go_ret
      exact ⟨rfl, rfl⟩
  | cons p0 m0 =>
    obtain ⟨g, cap, rfl⟩ := own_shape (n := m0.length) (by simpa using hK)
    obtain ⟨g2, cap2, rfl⟩ := own_shape (n := m0.length) (by simpa using hL)
    generalize hmm : p0 :: m0 = m at *
    have hln : m0.length + 1 = m.length := by rw [← hmm]; rfl
    rw [hln] at v3 v4 hK hL
    clear hmm hln
    have CK := hide (own_cell hK)
    have CL := hide (own_cell hL)
    clear hK hL h
    go_enter Tryz.func45, Tryz.ntmps45
    go_wp2_with fail
    go_loopg [5] (m.length) (fun gg a wr => ∃ n : Nat, gg = m.length - n ∧ n ≤ m.length ∧ a = .int .i64 (n : Int) ∧ wr = w ∧ lookK key (m.drop n) = lookK key m)
    case atStart => exact ⟨0, rfl, by omega, rfl, rfl, rfl⟩
    case round =>
      obtain ⟨n, hg, hn, rfl, rfl, hlk⟩ := hrel
      have H := hide (And.intro hg hlk)
      clear hg hlk
      by_cases hlt : n < m.length
      · obtain ⟨p, hp⟩ : ∃ p, m[n]? = some p := ⟨m[n], List.getElem?_eq_getElem hlt⟩
        have ck := CK.out n (.string ⟨p.1.toArray⟩) (by rw [List.getElem?_map, hp]; rfl)
        have cl := CL.out n (ptr p.2) (by rw [List.getElem?_map, hp]; rfl)
        have hdr := lookK_drop key m n p hp
        have hlt' : (n : Int) < (m.length : Int) := by omega
        have HP := hide hdr
        clear hp hdr
        by_cases he : p.1 = key
        · have se' : (p.1 == key) = true := by simpa using he
          go_wp2
          go_ret
          refine ⟨?_, rfl⟩
          rw [← H.out.2, HP.out, if_pos he]
          rfl
        · have se' : (p.1 == key) = false := by simpa using he
          go_wp2
          go_roundg (m.length - (n + 1))
          case measure => rw [H.out.1]; omega
          case rel => exact ⟨n + 1, rfl, by omega, int_i64 (by omega), rfl, by rw [← H.out.2, HP.out, if_neg he]⟩
      · have hlt' : ¬ (n : Int) < (m.length : Int) := by omega
        go_wp2
        go_ret
        refine ⟨?_, rfl⟩
        rw [← H.out.2, List.drop_of_length_le (by omega)]
        rfl
end Go.Proofs.YtocligpfmfmihaaGreatDoor
