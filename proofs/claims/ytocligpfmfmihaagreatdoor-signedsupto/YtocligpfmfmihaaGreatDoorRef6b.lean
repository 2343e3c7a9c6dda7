import Derived.Test.YtocligpfmfmihaaGreatDoorRef5
namespace Go.Proofs.YtocligpfmfmihaaGreatDoor
open Go Go.RowKit
variable {W w w' : World} {rb k : Nat} {s : ByteArray} {bad : Bool}

set_option maxRecDepth 20000 in
set_option maxHeartbeats 4000000 in
theorem rnumb_minus (h : Rs W w rb s k true) (l : Bs) (hl : rest s k = 45 :: l) (k1 : Nat) (hk1e : k1 = k + 1) :
    Calls Tryz.prog 129 #[.pointer (some ⟨rb, 0, none⟩)] w fun e w' => ∃ v : Int, e = .returned (.int .i64 v) ∧ Kp (· = rb) w w' ∧ Rs W w' rb s k1 true := by
  have hsz := h.sz
  have hle := h.le
  obtain ⟨c0, c1, c2, f1, f2, hb⟩ := h.facts
  obtain ⟨hk1, hnx, hre, _⟩ := nxt_cons hl
  have N := hide hnx
  clear hl hnx hre
  go_enter Tryz.func129, Tryz.ntmps129
  go_wp2_with fail
  refine (peek_c h).mono ?_
  rintro e w1 ⟨rfl, m0, rfl⟩
  rw [N.out]
  go_wp2
  rw [show ((k : Int) + 1) = (k1 : Int) by omega]
  have h1 : Rs W ((w.drewN m0).setCell ⟨rb, 1, none⟩ (.int .i64 (k1 : Int))) rb s k1 true := (h.drewN m0).at k1 (by omega) (fun e => by cases e)
  have K1 : Kp (· = rb) w ((w.drewN m0).setCell ⟨rb, 1, none⟩ (.int .i64 (k1 : Int))) := Kp.setCell (p := ⟨rb, 1, none⟩) ((Kp.refl (· = rb) w).drewN m0) (fun _ => rfl) _
  clear N h c0 c1 c2 f1 f2 hb hk1e hk1
  generalize (w.drewN m0).setCell ⟨rb, 1, none⟩ (.int .i64 (k1 : Int)) = w1 at *
  obtain ⟨c0, c1, c2, f1, f2, hb⟩ := h1.facts
  go_loopg [4] 1 (fun g a wr => g = 1 ∧ a = .int .i64 0 ∧ wr = w1)
  case atStart => exact ⟨rfl, rfl, rfl⟩
  case round =>
    obtain ⟨rfl, rfl, rfl⟩ := hrel
    by_cases hlt : k1 < s.size
    · have hd : decide ((k1 : Int) < (s.size : Int)) = true := by simp; omega
      generalize hcc : s[k1] = c at *
      by_cases g1 : 48 ≤ (c.toNat : Int)
      · have g1' : decide (48 ≤ (c.toNat : Int)) = true := by simp; omega
        by_cases g2 : (c.toNat : Int) ≤ 57
        · have g2' : decide ((c.toNat : Int) ≤ 57) = true := by simp; omega
          go_wp2
          go_quiet (fail)
          go_wp2
          go_ret
          exact ⟨_, rfl, Kp.setCell (p := ⟨rb, 2, none⟩) (K1.drewN _) (fun _ => rfl) _, (h1.drewN _).turn true (fun e => by cases e)⟩
        · have g2' : decide ((c.toNat : Int) ≤ 57) = false := by simp; omega
          go_wp2
          go_quiet (fail)
          go_wp2
          go_ret
          exact ⟨_, rfl, Kp.setCell (p := ⟨rb, 2, none⟩) (K1.drewN _) (fun _ => rfl) _, (h1.drewN _).turn true (fun e => by cases e)⟩
      · have g1' : decide (48 ≤ (c.toNat : Int)) = false := by simp; omega
        go_wp2
        go_quiet (fail)
        go_wp2
        go_ret
        exact ⟨_, rfl, Kp.setCell (p := ⟨rb, 2, none⟩) (K1.drewN _) (fun _ => rfl) _, (h1.drewN _).turn true (fun e => by cases e)⟩
    · have hd : decide ((k1 : Int) < (s.size : Int)) = false := by simp; omega
      go_wp2
      go_quiet (fail)
      go_wp2
      go_ret
      exact ⟨_, rfl, Kp.setCell (p := ⟨rb, 2, none⟩) (K1.drewN _) (fun _ => rfl) _, (h1.drewN _).turn true (fun e => by cases e)⟩

set_option maxRecDepth 20000 in
set_option maxHeartbeats 4000000 in
theorem rnumb_plain (k1 : Nat) (h : Rs W w rb s k1 true) (hl : nxt (rest s k1) ≠ 45) :
    Calls Tryz.prog 129 #[.pointer (some ⟨rb, 0, none⟩)] w fun e w' => ∃ v : Int, e = .returned (.int .i64 v) ∧ Kp (· = rb) w w' ∧ Rs W w' rb s k1 true := by
  have hsz := h.sz
  have hle := h.le
  obtain ⟨c0, c1, c2, f1, f2, hb⟩ := h.facts
  have n45 := u8n hl
  simp only [UInt8.reduceToNat, Int.cast_ofNat_Int] at n45
  clear hl
  go_enter Tryz.func129, Tryz.ntmps129
  go_wp2_with fail
  refine (peek_c h).mono ?_
  rintro e w1 ⟨rfl, m0, rfl⟩
  go_wp2
  have h1 := h.drewN m0
  have K1 : Kp (· = rb) w (w.drewN m0) := (Kp.refl _ _).drewN m0
  clear h c0 c1 c2 f1 f2 hb n45
  generalize w.drewN m0 = w1 at *
  obtain ⟨c0, c1, c2, f1, f2, hb⟩ := h1.facts
  go_loopg [4] 1 (fun g a wr => g = 1 ∧ a = .int .i64 0 ∧ wr = w1)
  case atStart => exact ⟨rfl, rfl, rfl⟩
  case round =>
    obtain ⟨rfl, rfl, rfl⟩ := hrel
    by_cases hlt : k1 < s.size
    · have hd : decide ((k1 : Int) < (s.size : Int)) = true := by simp; omega
      generalize hcc : s[k1] = c at *
      by_cases g1 : 48 ≤ (c.toNat : Int)
      · have g1' : decide (48 ≤ (c.toNat : Int)) = true := by simp; omega
        by_cases g2 : (c.toNat : Int) ≤ 57
        · have g2' : decide ((c.toNat : Int) ≤ 57) = true := by simp; omega
          go_wp2
          go_quiet (fail)
          go_wp2
          go_ret
          exact ⟨_, rfl, Kp.setCell (p := ⟨rb, 2, none⟩) (K1.drewN _) (fun _ => rfl) _, (h1.drewN _).turn true (fun e => by cases e)⟩
        · have g2' : decide ((c.toNat : Int) ≤ 57) = false := by simp; omega
          go_wp2
          go_quiet (fail)
          go_wp2
          go_ret
          exact ⟨_, rfl, Kp.setCell (p := ⟨rb, 2, none⟩) (K1.drewN _) (fun _ => rfl) _, (h1.drewN _).turn true (fun e => by cases e)⟩
      · have g1' : decide (48 ≤ (c.toNat : Int)) = false := by simp; omega
        go_wp2
        go_quiet (fail)
        go_wp2
        go_ret
        exact ⟨_, rfl, Kp.setCell (p := ⟨rb, 2, none⟩) (K1.drewN _) (fun _ => rfl) _, (h1.drewN _).turn true (fun e => by cases e)⟩
    · have hd : decide ((k1 : Int) < (s.size : Int)) = false := by simp; omega
      go_wp2
      go_quiet (fail)
      go_wp2
      go_ret
      exact ⟨_, rfl, Kp.setCell (p := ⟨rb, 2, none⟩) (K1.drewN _) (fun _ => rfl) _, (h1.drewN _).turn true (fun e => by cases e)⟩
theorem rnum_bad (h : Rs W w rb s k true) :
    Calls Tryz.prog 129 #[.pointer (some ⟨rb, 0, none⟩)] w fun e w' => ∃ (v : Int) (k' : Nat), e = .returned (.int .i64 v) ∧ Kp (· = rb) w w' ∧ Rs W w' rb s k' true := by
  by_cases hl : nxt (rest s k) = 45
  · cases hr : rest s k with
    | nil => rw [hr] at hl; cases hl
    | cons c t =>
      have : c = 45 := by rw [hr] at hl; exact hl
      subst this
      exact (rnumb_minus h t hr (k + 1) rfl).mono (by rintro e w1 ⟨v, h1⟩; exact ⟨v, k + 1, h1⟩)
  · exact (rnumb_plain k h hl).mono (by rintro e w1 ⟨v, h1⟩; exact ⟨v, k, h1⟩)
end Go.Proofs.YtocligpfmfmihaaGreatDoor
