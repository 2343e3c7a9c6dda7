import Derived.Test.YtocligpfmfmihaaGreatDoorRef5
import Derived.Test.YtocligpfmfmihaaGreatDoorRef17G
namespace Go.Proofs.YtocligpfmfmihaaGreatDoor
open Go Go.RowKit
variable {W w w' : World} {rb k : Nat} {s : ByteArray} {bad : Bool}
def NmR (W w : World) (rb : Nat) (s : ByteArray) (o : Option (Int × Bs)) (e : Ending) (w' : World) : Prop :=
 ∃ v : Int, e = .returned (.int .i64 v) ∧ Kp (· = rb) w w' ∧ ∃ k' bad', Rs W w' rb s k' bad' ∧ match o with | some (x, r) => bad' = false ∧ v = x ∧ rest s k' = r | none => bad' = true
theorem nmR_some {o : Option (Int × Bs)} {k' : Nat} {x : Int} {r : Bs} (ho : o = some (x, r)) (hk : Kp (· = rb) w w') (hs : Rs W w' rb s k' false) (hr : rest s k' = r) : NmR W w rb s o (.returned (.int .i64 x)) w' := by
 subst ho
 exact ⟨_, rfl, hk, k', false, hs, rfl, rfl, hr⟩
theorem nmR_none {o : Option (Int × Bs)} {k' : Nat} {v : Int} (ho : o = none) (hk : Kp (· = rb) w w') (hs : Rs W w' rb s k' true) : NmR W w rb s o (.returned (.int .i64 v)) w' := by
 subst ho
 exact ⟨_, rfl, hk, k', true, hs, rfl⟩
theorem dg_no {c : UInt8} (h : ¬ (48 ≤ (c.toNat : Int) ∧ (c.toNat : Int) ≤ 57)) : isDg c = false := by
 cases hd : isDg c with
 | false => rfl
 | true => exact absurd (hexV_dg hd).2 h
theorem dg_yes {c : UInt8} (h : 48 ≤ (c.toNat : Int)) (h' : (c.toNat : Int) ≤ 57) : isDg c = true := by
 unfold isDg
 simp [UInt8.le_iff_toNat_le]
 omega
theorem dgs_stop {c : UInt8} {t : Bs} (h : isDg c = false) : dgs (c :: t) = [] := by
 simp [dgs, h]
end Go.Proofs.YtocligpfmfmihaaGreatDoor
namespace Go.Proofs.YtocligpfmfmihaaGreatDoor
open Go Go.RowKit
variable {W w w' : World} {rb k : Nat} {s : ByteArray} {bad : Bool}
set_option maxRecDepth 20000 in
set_option maxHeartbeats 4000000 in
theorem rnum_minus (h : Rs W w rb s k false) (l : Bs) (hl : rest s k = 45 :: l) (k1 : Nat) (hk1e : k1 = k + 1) :
  Calls Tryz.prog 129 #[.pointer (some ⟨rb, 0, none⟩)] w fun e w' => NmR W w rb s (numT true (rest s k1)) e w' := by
 have hsz := h.sz
 have hgd := h.good rfl
 obtain ⟨c0, c1, c2, f1, f2, hb⟩ := h.facts
 obtain ⟨hk1, hnx, hre, _⟩ := nxt_cons hl
 have N := hide hnx
 clear hl hnx hre
 go_enter Tryz.func129, Tryz.ntmps129
 go_wp2_with fail
 refine (peek_c h).mono ?_
 rintro e w1 ⟨rfl, m0, rfl⟩
 rw [N.out]
 go_wp2
 rw [show ((k : Int) + 1) = (k1 : Int) by omega]
 have h1 : Rs W ((w.drewN m0).setCell ⟨rb, 1, none⟩ (.int .i64 (k1 : Int))) rb s k1 false := (h.drewN m0).at k1 (by omega) (fun _ => by omega)
 have K1 : Kp (· = rb) w ((w.drewN m0).setCell ⟨rb, 1, none⟩ (.int .i64 (k1 : Int))) := Kp.setCell (p := ⟨rb, 1, none⟩) ((Kp.refl (· = rb) w).drewN m0) (fun _ => rfl) _
 have hk1' : k1 ≤ s.size := by omega
 clear N h c0 c1 c2 f1 f2 hb hk1 hgd hk1e
 generalize (w.drewN m0).setCell ⟨rb, 1, none⟩ (.int .i64 (k1 : Int)) = w1 at *
 go_loopg [4] (s.size - k1 + 1) (fun g a wr => ∃ (k' n : Nat) (bad' : Bool), g = (if bad' then 0 else s.size - k' + 1) ∧ k1 ≤ k' ∧ k' ≤ s.size ∧ a = .int .i64 (n : Int) ∧ Rs W wr rb s k' bad' ∧ Kp (· = rb) w wr ∧
  n = natOf (s.extract k1 k').data.toList ∧ n ≤ 90071992547409919 ∧ (∀ c ∈ (s.extract k1 k').data.toList, isDg c = true) ∧ bad' = (decide (9007199254740991 < n) || (decide (k1 + 1 < k') && decide (nxt (rest s k1) = 48))))
 case atStart =>
  have e0 : (s.extract k1 k1).data.toList = [] := by rw [Lib.extract_data]; simp
  have q : ¬ (k1 + 1 < k1) := by omega
  have q0 : false = (decide (9007199254740991 < 0) || (decide (k1 + 1 < k1) && decide (nxt (rest s k1) = 48))) := by simp [q]
  exact ⟨k1, 0, false, rfl, Nat.le_refl _, hk1', rfl, h1, K1, by rw [e0]; rfl, by omega, by rw [e0]; simp, q0⟩
 case round =>
  clear h1 K1
  obtain ⟨k', n, bad', hg, hkk, hks, rfl, h2, K2, hn, hnb, hD, hbd⟩ := hrel
  obtain ⟨c0, c1, c2, f1, f2, hb⟩ := h2.facts
  have B := hide (And.intro hg (And.intro hn (And.intro hD hbd)))
  clear hg hn hD hbd
  have ex : (bad' = false → dgs (rest s k') = []) → numT true (rest s k1) = if k' = k1 ∨ n = 0 then none else if bad' then none else some (-(n : Int), rest s k') := by
   intro hstop
   obtain ⟨_, hn, hD, hbd⟩ := B.out
   cases hb' : bad' with
   | true =>
    rw [hb'] at hbd
    rw [num_none hkk hks hD]
    ·simp
    ·rw [← hn]
     simp only [Bool.true_eq, Bool.or_eq_true, decide_eq_true_eq, Bool.and_eq_true] at hbd
     unfold maxNum
     omega
   | false =>
    rw [hb'] at hbd
    simp only [Bool.false_eq, Bool.or_eq_false_iff, decide_eq_false_iff_not, Bool.and_eq_false_iff] at hbd
    rw [num_end hkk hks hD (hstop hb') (by rw [← hn]; unfold maxNum; omega) (by rcases hbd.2 with q | q; exact Or.inl (by omega); exact Or.inr q), ← hn]
    simp
  have EXX := hide ex
  clear ex
  by_cases hlt : k' < s.size
  ·have hd : decide ((k' : Int) < (s.size : Int)) = true := by simp; omega
   have hcons := rest_cons hlt
   have hsnoc := ext_snoc hkk hlt
   generalize hcc : s[k'] = c at *
   have CC := hide (And.intro hcc (And.intro hcons hsnoc))
   clear hcons hsnoc
   by_cases g1 : 48 ≤ (c.toNat : Int)
   ·have g1' : decide (48 ≤ (c.toNat : Int)) = true := by simp; omega
    by_cases g2 : (c.toNat : Int) ≤ 57
    ·have g2' : decide ((c.toNat : Int) ≤ 57) = true := by simp; omega
     cases hb' : bad' with
     | true =>
      subst hb'
      have EX := hide (EXX.out (fun e => by cases e))
      clear EXX
      go_wp2
      go_quiet (fail)
      by_cases e1 : k' = k1
      ·have e1' : ((k' : Int) == (k1 : Int)) = true := by simp; omega
       have o := EX.out
       rw [if_pos (Or.inl e1)] at o
       have O := hide o
       clear o e1
       go_wp2
       go_ret
       exact nmR_none O.out (Kp.setCell (p := ⟨rb, 2, none⟩) (K2.drewN _) (fun _ => rfl) _) ((h2.drewN _).turn true (fun e => by cases e))
      ·have e1' : ((k' : Int) == (k1 : Int)) = false := by simp; omega
       by_cases e2 : n = 0
       ·have o := EX.out
        rw [if_pos (Or.inr e2)] at o
        have O := hide o
        have e2' : ((n : Int) == 0) = true := by simp; omega
        clear o e1 e2
        go_wp2
        go_ret
        exact nmR_none O.out (Kp.setCell (p := ⟨rb, 2, none⟩) (K2.drewN _) (fun _ => rfl) _) ((h2.drewN _).turn true (fun e => by cases e))
       ·have e2' : ((n : Int) == 0) = false := by simp; omega
        have o := EX.out
        rw [if_neg (by rintro (h | h); exact e1 h; exact e2 h)] at o
        have O := hide o
        clear o e1 e2
        go_wp2
        go_ret
        exact nmR_none O.out (K2.drewN _) (h2.drewN _)
     | false =>
      subst hb'
      have nb : n ≤ 9007199254740991 := by
       have := B.out.2.2.2
       simp only [Bool.false_eq, Bool.or_eq_false_iff, decide_eq_false_iff_not] at this
       omega
      have hnew : natOf (s.extract k1 (k' + 1)).data.toList = 10 * n + (c.toNat - 48) := by
       rw [CC.out.2.2, natOf_app, ← B.out.2.1]
       omega
      have hall : ∀ x ∈ (s.extract k1 (k' + 1)).data.toList, isDg x = true := by
       rw [CC.out.2.2]
       intro x hx
       rcases List.mem_append.1 hx with h | h
       ·exact B.out.2.2.1 x h
       ·obtain rfl : x = c := by simpa using h
        exact dg_yes g1 g2
      have NN := hide (And.intro hnew hall)
      clear hnew hall
      have nx : ∀ hk : k1 < s.size, ((s[k1].toNat : Int) == 48) = decide (nxt (rest s k1) = 48) := by
       intro hk
       rw [rest_cons hk]
       have := u8b s[k1] 48
       simp only [UInt8.reduceToNat, Int.cast_ofNat_Int] at this
       rw [this]
       rw [Bool.eq_iff_iff]
       simp [nxt]
      have hk1s : k1 < s.size := by omega
      have NX := hide (nx hk1s)
      clear nx
      have MM := hide (And.intro nb hnb)
      clear hnb
      go_wp2
      go_quiet (fail)
      go_wp2
      go_quiet (fail)
      by_cases b1 : (9007199254740991 : Int) < 10 * (n : Int) + ((c.toNat : Int) - 48)
      ·have b1' : decide ((9007199254740991 : Int) < 10 * (n : Int) + ((c.toNat : Int) - 48)) = true := by simpa using b1
       go_wp2
       go_roundg 0
       case measure => rw [B.out.1]; simp
       case rel =>
        refine ⟨k' + 1, 10 * n + (c.toNat - 48), true, rfl, by omega, hlt, int_i64 (by omega), ((h2.drewN _).turn true (fun e => by cases e)).at (k' + 1) (by omega) (fun e => by cases e), Kp.setCell (p := ⟨rb, 1, none⟩) (Kp.setCell (p := ⟨rb, 2, none⟩) (K2.drewN _) (fun _ => rfl) _) (fun _ => rfl) _, NN.out.1.symm, by have := MM.out; omega, NN.out.2, ?_⟩
        have q : 9007199254740991 < 10 * n + (c.toNat - 48) := by omega
        simp [q]
      ·have b1n : ¬ 9007199254740991 < 10 * n + (c.toNat - 48) := by omega
       have b1' : decide ((9007199254740991 : Int) < 10 * (n : Int) + ((c.toNat : Int) - 48)) = false := by simpa using b1
       by_cases b2 : k1 < k'
       ·have b2' : (k1 : Int) < (k' : Int) := by omega
        have b2n : k1 + 1 < k' + 1 := by omega
        cases b3 : decide (nxt (rest s k1) = 48) with
        | true =>
         have b3' := NX.out.trans b3
         go_wp2
         go_roundg 0
         case measure => rw [B.out.1]; simp
         case rel =>
          exact ⟨k' + 1, 10 * n + (c.toNat - 48), true, rfl, by omega, hlt, int_i64 (by omega), ((h2.drewN _).turn true (fun e => by cases e)).at (k' + 1) (by omega) (fun e => by cases e), Kp.setCell (p := ⟨rb, 1, none⟩) (Kp.setCell (p := ⟨rb, 2, none⟩) (K2.drewN _) (fun _ => rfl) _) (fun _ => rfl) _, NN.out.1.symm, by have := MM.out; omega, NN.out.2, by rw [b3]; simp [b2n]⟩
        | false =>
         have b3' := NX.out.trans b3
         go_wp2
         go_roundg (s.size - (k' + 1) + 1)
         case measure => rw [B.out.1]; simp; omega
         case rel =>
          exact ⟨k' + 1, 10 * n + (c.toNat - 48), false, by simp, by omega, hlt, int_i64 (by omega), ((h2.drewN _).turn false (fun _ => by omega)).at (k' + 1) (by omega) (fun _ => by omega), Kp.setCell (p := ⟨rb, 1, none⟩) (Kp.setCell (p := ⟨rb, 2, none⟩) (K2.drewN _) (fun _ => rfl) _) (fun _ => rfl) _, NN.out.1.symm, by have := MM.out; omega, NN.out.2, by rw [b3]; simp; omega⟩
       ·have b2' : ¬ (k1 : Int) < (k' : Int) := by omega
        have b2n : ¬ k1 + 1 < k' + 1 := by omega
        go_wp2
        go_roundg (s.size - (k' + 1) + 1)
        case measure => rw [B.out.1]; simp; omega
        case rel =>
         exact ⟨k' + 1, 10 * n + (c.toNat - 48), false, by simp, by omega, hlt, int_i64 (by omega), ((h2.drewN _).turn false (fun _ => by omega)).at (k' + 1) (by omega) (fun _ => by omega), Kp.setCell (p := ⟨rb, 1, none⟩) (Kp.setCell (p := ⟨rb, 2, none⟩) (K2.drewN _) (fun _ => rfl) _) (fun _ => rfl) _, NN.out.1.symm, by have := MM.out; omega, NN.out.2, by simp [b2, b1n]⟩
    ·have g2' : decide ((c.toNat : Int) ≤ 57) = false := by simp; omega
     have EX := hide (EXX.out (fun _ => by rw [CC.out.2.1]; exact dgs_stop (dg_no (by omega))))
     clear EXX
     go_wp2
     go_quiet (fail)
     by_cases e1 : k' = k1
     ·have e1' : ((k' : Int) == (k1 : Int)) = true := by simp; omega
      have o := EX.out
      rw [if_pos (Or.inl e1)] at o
      have O := hide o
      clear o e1
      go_wp2
      go_ret
      exact nmR_none O.out (Kp.setCell (p := ⟨rb, 2, none⟩) (K2.drewN _) (fun _ => rfl) _) ((h2.drewN _).turn true (fun e => by cases e))
     ·have e1' : ((k' : Int) == (k1 : Int)) = false := by simp; omega
      by_cases e2 : n = 0
      ·have o := EX.out
       rw [if_pos (Or.inr e2)] at o
       have O := hide o
       have e2' : ((n : Int) == 0) = true := by simp; omega
       clear o e1 e2
       go_wp2
       go_ret
       exact nmR_none O.out (Kp.setCell (p := ⟨rb, 2, none⟩) (K2.drewN _) (fun _ => rfl) _) ((h2.drewN _).turn true (fun e => by cases e))
      ·have e2' : ((n : Int) == 0) = false := by simp; omega
       have o := EX.out
       rw [if_neg (by rintro (h | h); exact e1 h; exact e2 h)] at o
       have O := hide o
       clear o e1 e2
       go_wp2
       go_ret
       cases bad' with
       | true => exact nmR_none O.out (K2.drewN _) (h2.drewN _)
       | false => exact nmR_some O.out (K2.drewN _) (h2.drewN _) rfl
   ·have g1' : decide (48 ≤ (c.toNat : Int)) = false := by simp; omega
    have EX := hide (EXX.out (fun _ => by rw [CC.out.2.1]; exact dgs_stop (dg_no (by omega))))
    clear EXX
    go_wp2
    go_quiet (fail)
    by_cases e1 : k' = k1
    ·have e1' : ((k' : Int) == (k1 : Int)) = true := by simp; omega
     have o := EX.out
     rw [if_pos (Or.inl e1)] at o
     have O := hide o
     clear o e1
     go_wp2
     go_ret
     exact nmR_none O.out (Kp.setCell (p := ⟨rb, 2, none⟩) (K2.drewN _) (fun _ => rfl) _) ((h2.drewN _).turn true (fun e => by cases e))
    ·have e1' : ((k' : Int) == (k1 : Int)) = false := by simp; omega
     by_cases e2 : n = 0
     ·have o := EX.out
      rw [if_pos (Or.inr e2)] at o
      have O := hide o
      have e2' : ((n : Int) == 0) = true := by simp; omega
      clear o e1 e2
      go_wp2
      go_ret
      exact nmR_none O.out (Kp.setCell (p := ⟨rb, 2, none⟩) (K2.drewN _) (fun _ => rfl) _) ((h2.drewN _).turn true (fun e => by cases e))
     ·have e2' : ((n : Int) == 0) = false := by simp; omega
      have o := EX.out
      rw [if_neg (by rintro (h | h); exact e1 h; exact e2 h)] at o
      have O := hide o
      clear o e1 e2
      go_wp2
      go_ret
      cases bad' with
      | true => exact nmR_none O.out (K2.drewN _) (h2.drewN _)
      | false => exact nmR_some O.out (K2.drewN _) (h2.drewN _) rfl
  ·have hd : decide ((k' : Int) < (s.size : Int)) = false := by simp; omega
   have EX := hide (EXX.out (fun _ => by rw [rest_nil (by omega)]; rfl))
   clear EXX
   go_wp2
   go_quiet (fail)
   by_cases e1 : k' = k1
   ·have e1' : ((k' : Int) == (k1 : Int)) = true := by simp; omega
    have o := EX.out
    rw [if_pos (Or.inl e1)] at o
    have O := hide o
    clear o e1
    go_wp2
    go_ret
    exact nmR_none O.out (Kp.setCell (p := ⟨rb, 2, none⟩) (K2.drewN _) (fun _ => rfl) _) ((h2.drewN _).turn true (fun e => by cases e))
   ·have e1' : ((k' : Int) == (k1 : Int)) = false := by simp; omega
    by_cases e2 : n = 0
    ·have o := EX.out
     rw [if_pos (Or.inr e2)] at o
     have O := hide o
     have e2' : ((n : Int) == 0) = true := by simp; omega
     clear o e1 e2
     go_wp2
     go_ret
     exact nmR_none O.out (Kp.setCell (p := ⟨rb, 2, none⟩) (K2.drewN _) (fun _ => rfl) _) ((h2.drewN _).turn true (fun e => by cases e))
    ·have e2' : ((n : Int) == 0) = false := by simp; omega
     have o := EX.out
     rw [if_neg (by rintro (h | h); exact e1 h; exact e2 h)] at o
     have O := hide o
     clear o e1 e2
     go_wp2
     go_ret
     cases bad' with
     | true => exact nmR_none O.out (K2.drewN _) (h2.drewN _)
     | false => exact nmR_some O.out (K2.drewN _) (h2.drewN _) rfl
end Go.Proofs.YtocligpfmfmihaaGreatDoor
namespace Go.Proofs.YtocligpfmfmihaaGreatDoor
open Go Go.RowKit
variable {W w w' : World} {rb k : Nat} {s : ByteArray} {bad : Bool}
set_option maxRecDepth 20000 in
set_option maxHeartbeats 4000000 in
theorem rnum_plain (k1 : Nat) (h : Rs W w rb s k1 false) (hl : nxt (rest s k1) ≠ 45) :
  Calls Tryz.prog 129 #[.pointer (some ⟨rb, 0, none⟩)] w fun e w' => NmR W w rb s (numT false (rest s k1)) e w' := by
 have hsz := h.sz
 have hgd := h.good rfl
 obtain ⟨c0, c1, c2, f1, f2, hb⟩ := h.facts
 have n45 := u8n hl
 simp only [UInt8.reduceToNat, Int.cast_ofNat_Int] at n45
 clear hl
 go_enter Tryz.func129, Tryz.ntmps129
 go_wp2_with fail
 refine (peek_c h).mono ?_
 rintro e w1 ⟨rfl, m0, rfl⟩
 go_wp2
 have h1 := h.drewN m0
 have K1 : Kp (· = rb) w (w.drewN m0) := (Kp.refl _ _).drewN m0
 clear h c0 c1 c2 f1 f2 hb n45
 generalize w.drewN m0 = w1 at *
 have hk1' : k1 ≤ s.size := hgd
 go_loopg [4] (s.size - k1 + 1) (fun g a wr => ∃ (k' n : Nat) (bad' : Bool), g = (if bad' then 0 else s.size - k' + 1) ∧ k1 ≤ k' ∧ k' ≤ s.size ∧ a = .int .i64 (n : Int) ∧ Rs W wr rb s k' bad' ∧ Kp (· = rb) w wr ∧
  n = natOf (s.extract k1 k').data.toList ∧ n ≤ 90071992547409919 ∧ (∀ c ∈ (s.extract k1 k').data.toList, isDg c = true) ∧ bad' = (decide (9007199254740991 < n) || (decide (k1 + 1 < k') && decide (nxt (rest s k1) = 48))))
 case atStart =>
  have e0 : (s.extract k1 k1).data.toList = [] := by rw [Lib.extract_data]; simp
  have q : ¬ (k1 + 1 < k1) := by omega
  have q0 : false = (decide (9007199254740991 < 0) || (decide (k1 + 1 < k1) && decide (nxt (rest s k1) = 48))) := by simp [q]
  exact ⟨k1, 0, false, rfl, Nat.le_refl _, hk1', rfl, h1, K1, by rw [e0]; rfl, by omega, by rw [e0]; simp, q0⟩
 case round =>
  clear h1 K1
  obtain ⟨k', n, bad', hg, hkk, hks, rfl, h2, K2, hn, hnb, hD, hbd⟩ := hrel
  obtain ⟨c0, c1, c2, f1, f2, hb⟩ := h2.facts
  have B := hide (And.intro hg (And.intro hn (And.intro hD hbd)))
  clear hg hn hD hbd
  have ex : (bad' = false → dgs (rest s k') = []) → numT false (rest s k1) = if k' = k1 then none else if bad' then none else some ((n : Int), rest s k') := by
   intro hstop
   obtain ⟨_, hn, hD, hbd⟩ := B.out
   cases hb' : bad' with
   | true =>
    rw [hb'] at hbd
    rw [num_none hkk hks hD]
    ·simp
    ·rw [← hn]
     simp only [Bool.true_eq, Bool.or_eq_true, decide_eq_true_eq, Bool.and_eq_true] at hbd
     unfold maxNum
     omega
   | false =>
    rw [hb'] at hbd
    simp only [Bool.false_eq, Bool.or_eq_false_iff, decide_eq_false_iff_not, Bool.and_eq_false_iff] at hbd
    rw [num_end hkk hks hD (hstop hb') (by rw [← hn]; unfold maxNum; omega) (by rcases hbd.2 with q | q; exact Or.inl (by omega); exact Or.inr q), ← hn]
    simp
  have EXX := hide ex
  clear ex
  by_cases hlt : k' < s.size
  ·have hd : decide ((k' : Int) < (s.size : Int)) = true := by simp; omega
   have hcons := rest_cons hlt
   have hsnoc := ext_snoc hkk hlt
   generalize hcc : s[k'] = c at *
   have CC := hide (And.intro hcc (And.intro hcons hsnoc))
   clear hcons hsnoc
   by_cases g1 : 48 ≤ (c.toNat : Int)
   ·have g1' : decide (48 ≤ (c.toNat : Int)) = true := by simp; omega
    by_cases g2 : (c.toNat : Int) ≤ 57
    ·have g2' : decide ((c.toNat : Int) ≤ 57) = true := by simp; omega
     cases hb' : bad' with
     | true =>
      subst hb'
      have EX := hide (EXX.out (fun e => by cases e))
      clear EXX
      go_wp2
      go_quiet (fail)
      by_cases e1 : k' = k1
      ·have e1' : ((k' : Int) == (k1 : Int)) = true := by simp; omega
       have o := EX.out
       rw [if_pos e1] at o
       have O := hide o
       clear o e1
       go_wp2
       go_ret
       exact nmR_none O.out (Kp.setCell (p := ⟨rb, 2, none⟩) (K2.drewN _) (fun _ => rfl) _) ((h2.drewN _).turn true (fun e => by cases e))
      ·have e1' : ((k' : Int) == (k1 : Int)) = false := by simp; omega
       have o := EX.out
       rw [if_neg e1] at o
       have O := hide o
       clear o e1
       go_wp2
       go_ret
       exact nmR_none O.out (K2.drewN _) (h2.drewN _)
     | false =>
      subst hb'
      have nb : n ≤ 9007199254740991 := by
       have := B.out.2.2.2
       simp only [Bool.false_eq, Bool.or_eq_false_iff, decide_eq_false_iff_not] at this
       omega
      have hnew : natOf (s.extract k1 (k' + 1)).data.toList = 10 * n + (c.toNat - 48) := by
       rw [CC.out.2.2, natOf_app, ← B.out.2.1]
       omega
      have hall : ∀ x ∈ (s.extract k1 (k' + 1)).data.toList, isDg x = true := by
       rw [CC.out.2.2]
       intro x hx
       rcases List.mem_append.1 hx with h | h
       ·exact B.out.2.2.1 x h
       ·obtain rfl : x = c := by simpa using h
        exact dg_yes g1 g2
      have NN := hide (And.intro hnew hall)
      clear hnew hall
      have nx : ∀ hk : k1 < s.size, ((s[k1].toNat : Int) == 48) = decide (nxt (rest s k1) = 48) := by
       intro hk
       rw [rest_cons hk]
       have := u8b s[k1] 48
       simp only [UInt8.reduceToNat, Int.cast_ofNat_Int] at this
       rw [this]
       rw [Bool.eq_iff_iff]
       simp [nxt]
      have hk1s : k1 < s.size := by omega
      have NX := hide (nx hk1s)
      clear nx
      have MM := hide (And.intro nb hnb)
      clear hnb
      go_wp2
      go_quiet (fail)
      go_wp2
      go_quiet (fail)
      by_cases b1 : (9007199254740991 : Int) < 10 * (n : Int) + ((c.toNat : Int) - 48)
      ·have b1' : decide ((9007199254740991 : Int) < 10 * (n : Int) + ((c.toNat : Int) - 48)) = true := by simpa using b1
       go_wp2
       go_roundg 0
       case measure => rw [B.out.1]; simp
       case rel =>
        refine ⟨k' + 1, 10 * n + (c.toNat - 48), true, rfl, by omega, hlt, int_i64 (by omega), ((h2.drewN _).turn true (fun e => by cases e)).at (k' + 1) (by omega) (fun e => by cases e), Kp.setCell (p := ⟨rb, 1, none⟩) (Kp.setCell (p := ⟨rb, 2, none⟩) (K2.drewN _) (fun _ => rfl) _) (fun _ => rfl) _, NN.out.1.symm, by have := MM.out; omega, NN.out.2, ?_⟩
        have q : 9007199254740991 < 10 * n + (c.toNat - 48) := by omega
        simp [q]
      ·have b1n : ¬ 9007199254740991 < 10 * n + (c.toNat - 48) := by omega
       have b1' : decide ((9007199254740991 : Int) < 10 * (n : Int) + ((c.toNat : Int) - 48)) = false := by simpa using b1
       by_cases b2 : k1 < k'
       ·have b2' : (k1 : Int) < (k' : Int) := by omega
        have b2n : k1 + 1 < k' + 1 := by omega
        cases b3 : decide (nxt (rest s k1) = 48) with
        | true =>
         have b3' := NX.out.trans b3
         go_wp2
         go_roundg 0
         case measure => rw [B.out.1]; simp
         case rel =>
          exact ⟨k' + 1, 10 * n + (c.toNat - 48), true, rfl, by omega, hlt, int_i64 (by omega), ((h2.drewN _).turn true (fun e => by cases e)).at (k' + 1) (by omega) (fun e => by cases e), Kp.setCell (p := ⟨rb, 1, none⟩) (Kp.setCell (p := ⟨rb, 2, none⟩) (K2.drewN _) (fun _ => rfl) _) (fun _ => rfl) _, NN.out.1.symm, by have := MM.out; omega, NN.out.2, by rw [b3]; simp [b2n]⟩
        | false =>
         have b3' := NX.out.trans b3
         go_wp2
         go_roundg (s.size - (k' + 1) + 1)
         case measure => rw [B.out.1]; simp; omega
         case rel =>
          exact ⟨k' + 1, 10 * n + (c.toNat - 48), false, by simp, by omega, hlt, int_i64 (by omega), ((h2.drewN _).turn false (fun _ => by omega)).at (k' + 1) (by omega) (fun _ => by omega), Kp.setCell (p := ⟨rb, 1, none⟩) (Kp.setCell (p := ⟨rb, 2, none⟩) (K2.drewN _) (fun _ => rfl) _) (fun _ => rfl) _, NN.out.1.symm, by have := MM.out; omega, NN.out.2, by rw [b3]; simp; omega⟩
       ·have b2' : ¬ (k1 : Int) < (k' : Int) := by omega
        have b2n : ¬ k1 + 1 < k' + 1 := by omega
        go_wp2
        go_roundg (s.size - (k' + 1) + 1)
        case measure => rw [B.out.1]; simp; omega
        case rel =>
         exact ⟨k' + 1, 10 * n + (c.toNat - 48), false, by simp, by omega, hlt, int_i64 (by omega), ((h2.drewN _).turn false (fun _ => by omega)).at (k' + 1) (by omega) (fun _ => by omega), Kp.setCell (p := ⟨rb, 1, none⟩) (Kp.setCell (p := ⟨rb, 2, none⟩) (K2.drewN _) (fun _ => rfl) _) (fun _ => rfl) _, NN.out.1.symm, by have := MM.out; omega, NN.out.2, by simp [b2, b1n]⟩
    ·have g2' : decide ((c.toNat : Int) ≤ 57) = false := by simp; omega
     have EX := hide (EXX.out (fun _ => by rw [CC.out.2.1]; exact dgs_stop (dg_no (by omega))))
     clear EXX
     go_wp2
     go_quiet (fail)
     by_cases e1 : k' = k1
     ·have e1' : ((k' : Int) == (k1 : Int)) = true := by simp; omega
      have o := EX.out
      rw [if_pos e1] at o
      have O := hide o
      clear o e1
      go_wp2
      go_ret
      exact nmR_none O.out (Kp.setCell (p := ⟨rb, 2, none⟩) (K2.drewN _) (fun _ => rfl) _) ((h2.drewN _).turn true (fun e => by cases e))
     ·have e1' : ((k' : Int) == (k1 : Int)) = false := by simp; omega
      have o := EX.out
      rw [if_neg e1] at o
      have O := hide o
      clear o e1
      go_wp2
      go_ret
      cases bad' with
      | true => exact nmR_none O.out (K2.drewN _) (h2.drewN _)
      | false => exact nmR_some O.out (K2.drewN _) (h2.drewN _) rfl
   ·have g1' : decide (48 ≤ (c.toNat : Int)) = false := by simp; omega
    have EX := hide (EXX.out (fun _ => by rw [CC.out.2.1]; exact dgs_stop (dg_no (by omega))))
    clear EXX
    go_wp2
    go_quiet (fail)
    by_cases e1 : k' = k1
    ·have e1' : ((k' : Int) == (k1 : Int)) = true := by simp; omega
     have o := EX.out
     rw [if_pos e1] at o
     have O := hide o
     clear o e1
     go_wp2
     go_ret
     exact nmR_none O.out (Kp.setCell (p := ⟨rb, 2, none⟩) (K2.drewN _) (fun _ => rfl) _) ((h2.drewN _).turn true (fun e => by cases e))
    ·have e1' : ((k' : Int) == (k1 : Int)) = false := by simp; omega
     have o := EX.out
     rw [if_neg e1] at o
     have O := hide o
     clear o e1
     go_wp2
     go_ret
     cases bad' with
     | true => exact nmR_none O.out (K2.drewN _) (h2.drewN _)
     | false => exact nmR_some O.out (K2.drewN _) (h2.drewN _) rfl
  ·have hd : decide ((k' : Int) < (s.size : Int)) = false := by simp; omega
   have EX := hide (EXX.out (fun _ => by rw [rest_nil (by omega)]; rfl))
   clear EXX
   go_wp2
   go_quiet (fail)
   by_cases e1 : k' = k1
   ·have e1' : ((k' : Int) == (k1 : Int)) = true := by simp; omega
    have o := EX.out
    rw [if_pos e1] at o
    have O := hide o
    clear o e1
    go_wp2
    go_ret
    exact nmR_none O.out (Kp.setCell (p := ⟨rb, 2, none⟩) (K2.drewN _) (fun _ => rfl) _) ((h2.drewN _).turn true (fun e => by cases e))
   ·have e1' : ((k' : Int) == (k1 : Int)) = false := by simp; omega
    have o := EX.out
    rw [if_neg e1] at o
    have O := hide o
    clear o e1
    go_wp2
    go_ret
    cases bad' with
    | true => exact nmR_none O.out (K2.drewN _) (h2.drewN _)
    | false => exact nmR_some O.out (K2.drewN _) (h2.drewN _) rfl
end Go.Proofs.YtocligpfmfmihaaGreatDoor
namespace Go.Proofs.YtocligpfmfmihaaGreatDoor
open Go Go.RowKit
variable {W w w' : World} {rb k : Nat} {s : ByteArray} {bad : Bool}
set_option maxRecDepth 20000 in
set_option maxHeartbeats 4000000 in
theorem rnumb_minus (h : Rs W w rb s k true) (l : Bs) (hl : rest s k = 45 :: l) (k1 : Nat) (hk1e : k1 = k + 1) :
  Calls Tryz.prog 129 #[.pointer (some ⟨rb, 0, none⟩)] w fun e w' => ∃ v : Int, e = .returned (.int .i64 v) ∧ Kp (· = rb) w w' ∧ Rs W w' rb s k1 true := by
 have hsz := h.sz
 have hle := h.le
 obtain ⟨c0, c1, c2, f1, f2, hb⟩ := h.facts
 obtain ⟨hk1, hnx, hre, _⟩ := nxt_cons hl
 have N := hide hnx
 clear hl hnx hre
 go_enter Tryz.func129, Tryz.ntmps129
 go_wp2_with fail
 refine (peek_c h).mono ?_
 rintro e w1 ⟨rfl, m0, rfl⟩
 rw [N.out]
 go_wp2
 rw [show ((k : Int) + 1) = (k1 : Int) by omega]
 have h1 : Rs W ((w.drewN m0).setCell ⟨rb, 1, none⟩ (.int .i64 (k1 : Int))) rb s k1 true := (h.drewN m0).at k1 (by omega) (fun e => by cases e)
 have K1 : Kp (· = rb) w ((w.drewN m0).setCell ⟨rb, 1, none⟩ (.int .i64 (k1 : Int))) := Kp.setCell (p := ⟨rb, 1, none⟩) ((Kp.refl (· = rb) w).drewN m0) (fun _ => rfl) _
 clear N h c0 c1 c2 f1 f2 hb hk1e hk1
 generalize (w.drewN m0).setCell ⟨rb, 1, none⟩ (.int .i64 (k1 : Int)) = w1 at *
 obtain ⟨c0, c1, c2, f1, f2, hb⟩ := h1.facts
 go_loopg [4] 1 (fun g a wr => g = 1 ∧ a = .int .i64 0 ∧ wr = w1)
 case atStart => exact ⟨rfl, rfl, rfl⟩
 case round =>
  obtain ⟨rfl, rfl, rfl⟩ := hrel
  by_cases hlt : k1 < s.size
  ·have hd : decide ((k1 : Int) < (s.size : Int)) = true := by simp; omega
   generalize hcc : s[k1] = c at *
   by_cases g1 : 48 ≤ (c.toNat : Int)
   ·have g1' : decide (48 ≤ (c.toNat : Int)) = true := by simp; omega
    by_cases g2 : (c.toNat : Int) ≤ 57
    ·have g2' : decide ((c.toNat : Int) ≤ 57) = true := by simp; omega
     go_wp2
     go_quiet (fail)
     go_wp2
     go_ret
     exact ⟨_, rfl, Kp.setCell (p := ⟨rb, 2, none⟩) (K1.drewN _) (fun _ => rfl) _, (h1.drewN _).turn true (fun e => by cases e)⟩
    ·have g2' : decide ((c.toNat : Int) ≤ 57) = false := by simp; omega
     go_wp2
     go_quiet (fail)
     go_wp2
     go_ret
     exact ⟨_, rfl, Kp.setCell (p := ⟨rb, 2, none⟩) (K1.drewN _) (fun _ => rfl) _, (h1.drewN _).turn true (fun e => by cases e)⟩
   ·have g1' : decide (48 ≤ (c.toNat : Int)) = false := by simp; omega
    go_wp2
    go_quiet (fail)
    go_wp2
    go_ret
    exact ⟨_, rfl, Kp.setCell (p := ⟨rb, 2, none⟩) (K1.drewN _) (fun _ => rfl) _, (h1.drewN _).turn true (fun e => by cases e)⟩
  ·have hd : decide ((k1 : Int) < (s.size : Int)) = false := by simp; omega
   go_wp2
   go_quiet (fail)
   go_wp2
   go_ret
   exact ⟨_, rfl, Kp.setCell (p := ⟨rb, 2, none⟩) (K1.drewN _) (fun _ => rfl) _, (h1.drewN _).turn true (fun e => by cases e)⟩
set_option maxRecDepth 20000 in
set_option maxHeartbeats 4000000 in
theorem rnumb_plain (k1 : Nat) (h : Rs W w rb s k1 true) (hl : nxt (rest s k1) ≠ 45) :
  Calls Tryz.prog 129 #[.pointer (some ⟨rb, 0, none⟩)] w fun e w' => ∃ v : Int, e = .returned (.int .i64 v) ∧ Kp (· = rb) w w' ∧ Rs W w' rb s k1 true := by
 have hsz := h.sz
 have hle := h.le
 obtain ⟨c0, c1, c2, f1, f2, hb⟩ := h.facts
 have n45 := u8n hl
 simp only [UInt8.reduceToNat, Int.cast_ofNat_Int] at n45
 clear hl
 go_enter Tryz.func129, Tryz.ntmps129
 go_wp2_with fail
 refine (peek_c h).mono ?_
 rintro e w1 ⟨rfl, m0, rfl⟩
 go_wp2
 have h1 := h.drewN m0
 have K1 : Kp (· = rb) w (w.drewN m0) := (Kp.refl _ _).drewN m0
 clear h c0 c1 c2 f1 f2 hb n45
 generalize w.drewN m0 = w1 at *
 obtain ⟨c0, c1, c2, f1, f2, hb⟩ := h1.facts
 go_loopg [4] 1 (fun g a wr => g = 1 ∧ a = .int .i64 0 ∧ wr = w1)
 case atStart => exact ⟨rfl, rfl, rfl⟩
 case round =>
  obtain ⟨rfl, rfl, rfl⟩ := hrel
  by_cases hlt : k1 < s.size
  ·have hd : decide ((k1 : Int) < (s.size : Int)) = true := by simp; omega
   generalize hcc : s[k1] = c at *
   by_cases g1 : 48 ≤ (c.toNat : Int)
   ·have g1' : decide (48 ≤ (c.toNat : Int)) = true := by simp; omega
    by_cases g2 : (c.toNat : Int) ≤ 57
    ·have g2' : decide ((c.toNat : Int) ≤ 57) = true := by simp; omega
     go_wp2
     go_quiet (fail)
     go_wp2
     go_ret
     exact ⟨_, rfl, Kp.setCell (p := ⟨rb, 2, none⟩) (K1.drewN _) (fun _ => rfl) _, (h1.drewN _).turn true (fun e => by cases e)⟩
    ·have g2' : decide ((c.toNat : Int) ≤ 57) = false := by simp; omega
     go_wp2
     go_quiet (fail)
     go_wp2
     go_ret
     exact ⟨_, rfl, Kp.setCell (p := ⟨rb, 2, none⟩) (K1.drewN _) (fun _ => rfl) _, (h1.drewN _).turn true (fun e => by cases e)⟩
   ·have g1' : decide (48 ≤ (c.toNat : Int)) = false := by simp; omega
    go_wp2
    go_quiet (fail)
    go_wp2
    go_ret
    exact ⟨_, rfl, Kp.setCell (p := ⟨rb, 2, none⟩) (K1.drewN _) (fun _ => rfl) _, (h1.drewN _).turn true (fun e => by cases e)⟩
  ·have hd : decide ((k1 : Int) < (s.size : Int)) = false := by simp; omega
   go_wp2
   go_quiet (fail)
   go_wp2
   go_ret
   exact ⟨_, rfl, Kp.setCell (p := ⟨rb, 2, none⟩) (K1.drewN _) (fun _ => rfl) _, (h1.drewN _).turn true (fun e => by cases e)⟩
theorem rnum_bad (h : Rs W w rb s k true) :
  Calls Tryz.prog 129 #[.pointer (some ⟨rb, 0, none⟩)] w fun e w' => ∃ (v : Int) (k' : Nat), e = .returned (.int .i64 v) ∧ Kp (· = rb) w w' ∧ Rs W w' rb s k' true := by
 by_cases hl : nxt (rest s k) = 45
 ·cases hr : rest s k with
  | nil => rw [hr] at hl; cases hl
  | cons c t =>
   have : c = 45 := by rw [hr] at hl; exact hl
   subst this
   exact (rnumb_minus h t hr (k + 1) rfl).mono (by rintro e w1 ⟨v, h1⟩; exact ⟨v, k + 1, h1⟩)
 ·exact (rnumb_plain k h hl).mono (by rintro e w1 ⟨v, h1⟩; exact ⟨v, k, h1⟩)
end Go.Proofs.YtocligpfmfmihaaGreatDoor
