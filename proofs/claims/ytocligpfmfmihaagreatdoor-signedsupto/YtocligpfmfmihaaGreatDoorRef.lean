import Derived.Test.YtocligpfmfmihaaGreatDoorPar
namespace Go.Proofs.YtocligpfmfmihaaGreatDoor
open Go Go.RowKit

/-- The reference's reader. -/
structure Rs (W w : World) (rb : Nat) (s : ByteArray) (k : Nat) (bad : Bool) : Prop where
  gl : GL W
  old : Below W.heap.size W w
  rdr : w.heap[rb]? = some (.cells #[.string s, .int .i64 k, .bool bad] 128)
  ge : W.heap.size ≤ rb
  sz : s.size ≤ 600
  le : k ≤ s.size + 9
  good : bad = false → k ≤ s.size
variable {W w w' : World} {rb k : Nat} {s : ByteArray} {bad : Bool}
theorem Rs.facts (h : Rs W w rb s k bad) : w.cell? ⟨rb, 0, none⟩ = some (.string s) ∧ w.cell? ⟨rb, 1, none⟩ = some (.int .i64 k) ∧ w.cell? ⟨rb, 2, none⟩ = some (.bool bad) ∧
    w.frozen? ⟨rb, 1, none⟩ = false ∧ w.frozen? ⟨rb, 2, none⟩ = false ∧ rb < w.heap.size := by
  have hr := h.rdr
  refine ⟨?_, ?_, ?_, ?_, ?_, lt_heap hr⟩ <;> simp [World.cell?, World.frozen?, hr]
theorem Rs.drewN (h : Rs W w rb s k bad) (n : Nat) : Rs W (w.drewN n) rb s k bad := ⟨h.gl, below_drewN h.old n, h.rdr, h.ge, h.sz, h.le, h.good⟩
theorem Rs.at (h : Rs W w rb s k bad) (k' : Nat) (h1 : k' ≤ s.size + 9) (h2 : bad = false → k' ≤ s.size) : Rs W (w.setCell ⟨rb, 1, none⟩ (.int .i64 k')) rb s k' bad := by
  refine ⟨h.gl, h.old.setCell (p := ⟨rb, 1, none⟩) h.ge _, ?_, h.ge, h.sz, h1, h2⟩
  have := h.rdr
  simp [World.setCell, Array.getElem?_modify, this]
theorem Rs.turn (h : Rs W w rb s k bad) (b : Bool) (hb : b = false → k ≤ s.size) : Rs W (w.setCell ⟨rb, 2, none⟩ (.bool b)) rb s k b := by
  refine ⟨h.gl, h.old.setCell (p := ⟨rb, 2, none⟩) h.ge _, ?_, h.ge, h.sz, h.le, hb⟩
  have := h.rdr
  simp [World.setCell, Array.getElem?_modify, this]
theorem Rs.keep {S : Nat → Prop} (h : Rs W w rb s k bad) (hk : Kp S w w') (h1 : ∀ i, S i → W.heap.size ≤ i) (h2 : ¬ S rb) : Rs W w' rb s k bad :=
  ⟨h.gl, h.old.trans ⟨hk.os, hk.tape, hk.output, hk.size, fun i hi => hk.block i (Nat.lt_of_lt_of_le hi h.old.size) (fun hs => by have := h1 i hs; omega)⟩, (hk.block rb (lt_heap h.rdr) h2).trans h.rdr, h.ge, h.sz, h.le, h.good⟩

theorem peek_c (h : Rs W w rb s k bad) :
    Calls Tryz.prog 124 #[.pointer (some ⟨rb, 0, none⟩)] w fun e w' => e = .returned (.int .u8 (nxt (rest s k)).toNat) ∧ ∃ n, w.drewN n = w' := by
  obtain ⟨c0, c1, c2, f1, f2, hb⟩ := h.facts
  have hsz := h.sz
  have hle := h.le
  by_cases hk : k < s.size
  · have hd : decide ((k : Int) < (s.size : Int)) = true := by simp; omega
    rw [rest_cons hk]
    go_enter Tryz.func124, Tryz.ntmps124
    go_wp2
    go_quiet (fail)
    go_wp2
    go_quiet (fail)
    go_wp2
    go_ret
    simp only [World.drewN_drewN]
    exact ⟨rfl, _, rfl⟩
  · have hd : decide ((k : Int) < (s.size : Int)) = false := by simp; omega
    rw [rest_nil (by omega)]
    go_enter Tryz.func124, Tryz.ntmps124
    go_wp2
    go_quiet (fail)
    go_wp2
    go_ret
    exact ⟨rfl, _, rfl⟩

theorem rblanks_c (h : Rs W w rb s k bad) :
    Calls Tryz.prog 123 #[.pointer (some ⟨rb, 0, none⟩)] w fun e w' => e = .returned (.tuple #[]) ∧ Kp (· = rb) w w' ∧ ∃ k', Rs W w' rb s k' bad ∧ rest s k' = sk (rest s k) := by
  have hsz := h.sz
  go_enter Tryz.func123, Tryz.ntmps123
  go_wp2
  go_loopg [] (s.size - k) (fun g wr => ∃ k', g = s.size - k' ∧ Rs W wr rb s k' bad ∧ Kp (· = rb) w wr ∧ sk (rest s k') = sk (rest s k))
  case atStart => exact ⟨k, rfl, h, Kp.refl _ _, rfl⟩
  case round =>
    obtain ⟨k', hg, h1, h2, h3⟩ := hrel
    have A := hide (And.intro hg h3)
    clear hg h3
    have hle := h1.le
    obtain ⟨c0, c1, c2, f1, f2, hb⟩ := h1.facts
    by_cases hk : k' < s.size
    · have hd : decide ((k' : Int) < (s.size : Int)) = true := by simp; omega
      have HB := hide (isBl_eq s[k'])
      have step : isBl s[k'] = true → sk (rest s (k' + 1)) = sk (rest s k') := fun hbl => by
        rw [rest_cons hk]
        simp [sk, hbl]
      have stop : isBl s[k'] = false → rest s k' = sk (rest s k') := fun hbl => by
        rw [rest_cons hk]
        simp [sk, hbl]
      by_cases e1 : ((s[k'].toNat : Int) == 32) = true
      · have S := hide (step (by rw [HB.out, e1]; rfl))
        clear step stop
        go_wp2
        go_quiet (fail)
        go_wp2
        go_roundg (s.size - (k' + 1))
        case measure => rw [A.out.1]; omega
        case rel => exact ⟨k' + 1, rfl, (h1.drewN _).at (k' + 1) (by omega) (fun _ => by omega), Kp.setCell (p := ⟨rb, 1, none⟩) (h2.drewN _) (fun _ => rfl) _, S.out.trans A.out.2⟩
      · have e1' := Bool.eq_false_iff.2 e1
        by_cases e2 : ((s[k'].toNat : Int) == 9) = true
        · have S := hide (step (by rw [HB.out, e1', e2]; rfl))
          clear step stop
          go_wp2
          go_quiet (fail)
          go_wp2
          go_roundg (s.size - (k' + 1))
          case measure => rw [A.out.1]; omega
          case rel => exact ⟨k' + 1, rfl, (h1.drewN _).at (k' + 1) (by omega) (fun _ => by omega), Kp.setCell (p := ⟨rb, 1, none⟩) (h2.drewN _) (fun _ => rfl) _, S.out.trans A.out.2⟩
        · have e2' := Bool.eq_false_iff.2 e2
          by_cases e3 : ((s[k'].toNat : Int) == 10) = true
          · have S := hide (step (by rw [HB.out, e1', e2', e3]; rfl))
            clear step stop
            go_wp2
            go_quiet (fail)
            go_wp2
            go_roundg (s.size - (k' + 1))
            case measure => rw [A.out.1]; omega
            case rel => exact ⟨k' + 1, rfl, (h1.drewN _).at (k' + 1) (by omega) (fun _ => by omega), Kp.setCell (p := ⟨rb, 1, none⟩) (h2.drewN _) (fun _ => rfl) _, S.out.trans A.out.2⟩
          · have e3' := Bool.eq_false_iff.2 e3
            by_cases e4 : ((s[k'].toNat : Int) == 13) = true
            · have S := hide (step (by rw [HB.out, e1', e2', e3', e4]; rfl))
              clear step stop
              go_wp2
              go_quiet (fail)
              go_wp2
              go_roundg (s.size - (k' + 1))
              case measure => rw [A.out.1]; omega
              case rel => exact ⟨k' + 1, rfl, (h1.drewN _).at (k' + 1) (by omega) (fun _ => by omega), Kp.setCell (p := ⟨rb, 1, none⟩) (h2.drewN _) (fun _ => rfl) _, S.out.trans A.out.2⟩
            · have e4' := Bool.eq_false_iff.2 e4
              have S := hide (stop (by rw [HB.out, e1', e2', e3', e4']; rfl))
              clear step stop e1 e2 e3 e4
              go_wp2
              go_quiet (fail)
              go_wp2
              go_end0
              exact ⟨rfl, h2.drewN _, k', h1.drewN _, S.out.trans A.out.2⟩
    · have hd : decide ((k' : Int) < (s.size : Int)) = false := by simp; omega
      go_wp2
      go_quiet (fail)
      go_wp2
      go_end0
      exact ⟨rfl, h2.drewN _, k', h1.drewN _, by have := A.out.2; rw [rest_nil (by omega)] at this ⊢; exact this⟩

theorem ext_rest (s : ByteArray) (k n : Nat) : (s.extract k (k + n)).data.toList = (rest s k).take n := by
  unfold rest
  simp [List.take_drop]
set_option maxRecDepth 20000 in
/-- word, where it can't go on. -/
theorem word_bad (h : Rs W w rb s k true) (t : ByteArray) :
    Calls Tryz.prog 125 #[.pointer (some ⟨rb, 0, none⟩), .string t] w fun e w' => e = .returned (.tuple #[]) ∧ Kp (· = rb) w w' ∧ Rs W w' rb s k true := by
  obtain ⟨c0, c1, c2, f1, f2, hb⟩ := h.facts
  go_enter Tryz.func125, Tryz.ntmps125
  go_wp2
  go_quiet (fail)
  go_wp2
  refine bodyPost_ret (results_none rfl _ _ _) rfl ?_
  exact ⟨rfl, Kp.setCell (p := ⟨rb, 2, none⟩) ((Kp.refl (· = rb) _).drewN _) (fun _ => rfl) _, (h.drewN _).turn true (fun e => by cases e)⟩
end Go.Proofs.YtocligpfmfmihaaGreatDoor
