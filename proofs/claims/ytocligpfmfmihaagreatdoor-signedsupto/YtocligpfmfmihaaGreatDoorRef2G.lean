import Derived.Test.YtocligpfmfmihaaGreatDoorRef
namespace Go.Proofs.YtocligpfmfmihaaGreatDoor
open Go Go.RowKit
variable {W w w' : World} {rb k : Nat} {s : ByteArray} {bad : Bool}
theorem rest_len (s : ByteArray) (k : Nat) : (rest s k).length = s.size - k := by
  unfold rest
  rw [List.length_drop]
  simp
theorem rest_add (s : ByteArray) (k n : Nat) : rest s (k + n) = (rest s k).drop n := by
  unfold rest
  rw [List.drop_drop]
set_option maxRecDepth 20000 in
theorem word_yes (h : Rs W w rb s k false) (t : ByteArray) (ht : t.size ≤ 10) (r : List UInt8) (hp : rest s k = t.data.toList ++ r) :
    Calls Tryz.prog 125 #[.pointer (some ⟨rb, 0, none⟩), .string t] w fun e w' => e = .returned (.tuple #[]) ∧ Kp (· = rb) w w' ∧ ∃ k', Rs W w' rb s k' false ∧ rest s k' = r := by
  obtain ⟨c0, c1, c2, f1, f2, hb⟩ := h.facts
  have hsz := h.sz
  have hg := h.good rfl
  have hlen : s.size - k = t.size + r.length := by
    have := congrArg List.length hp
    rw [rest_len, List.length_append] at this
    rw [this]
    simp
  have hd : decide (((s.size : Int) - (k : Int)) < (t.size : Int)) = false := by simp; omega
  have he : s.extract k (k + t.size) = t := by
    have h1 := ext_rest s k t.size
    rw [hp, List.take_append_of_le_length (by simp), List.take_of_length_le (by simp)] at h1
    cases t
    cases he : s.extract k _
    rw [he] at h1
    simp at h1
    rw [h1]
  have hr : rest s (k + t.size) = r := by
    rw [rest_add, hp, List.drop_append_of_le_length (by simp), List.drop_of_length_le (by simp)]
    rfl
  have HR := hide hr
  clear hr hp
  have hkt : k + t.size ≤ s.size := by omega
  go_enter Tryz.func125, Tryz.ntmps125
  go_wp2
  go_quiet (fail)
  go_wp2
  go_end0
  exact ⟨rfl, Kp.setCell (p := ⟨rb, 1, none⟩) ((Kp.refl (· = rb) _).drewN _) (fun _ => rfl) _, k + t.size, (h.drewN _).at _ (by omega) (fun _ => hkt), HR.out⟩
set_option maxRecDepth 20000 in
theorem word_no (h : Rs W w rb s k false) (t : ByteArray) (ht : t.size ≤ 10) (hp : ∀ r, rest s k ≠ t.data.toList ++ r) :
    Calls Tryz.prog 125 #[.pointer (some ⟨rb, 0, none⟩), .string t] w fun e w' => e = .returned (.tuple #[]) ∧ Kp (· = rb) w w' ∧ Rs W w' rb s k true := by
  obtain ⟨c0, c1, c2, f1, f2, hb⟩ := h.facts
  have hsz := h.sz
  have hg := h.good rfl
  by_cases hl : s.size - k < t.size
  · have hd : decide (((s.size : Int) - (k : Int)) < (t.size : Int)) = true := by simp; omega
    clear hp
    go_enter Tryz.func125, Tryz.ntmps125
    go_wp2
    go_quiet (fail)
    go_wp2
    refine bodyPost_ret (results_none rfl _ _ _) rfl ?_
    exact ⟨rfl, Kp.setCell (p := ⟨rb, 2, none⟩) ((Kp.refl (· = rb) _).drewN _) (fun _ => rfl) _, (h.drewN _).turn true (fun e => by cases e)⟩
  · have hd : decide (((s.size : Int) - (k : Int)) < (t.size : Int)) = false := by simp; omega
    have he : ((s.extract k (k + t.size)).toList == t.toList) = false := by
      rw [beq_eq_false_iff_ne, ByteArray.toList_eq, ByteArray.toList_eq, ext_rest]
      intro e
      refine hp ((rest s k).drop t.size) ?_
      rw [← e, List.take_append_drop]
    clear hp
    go_enter Tryz.func125, Tryz.ntmps125
    go_wp2
    go_quiet (fail)
    go_wp2
    refine bodyPost_ret (results_none rfl _ _ _) rfl ?_
    exact ⟨rfl, Kp.setCell (p := ⟨rb, 2, none⟩) ((Kp.refl (· = rb) _).drewN _) (fun _ => rfl) _, (h.drewN _).turn true (fun e => by cases e)⟩
end Go.Proofs.YtocligpfmfmihaaGreatDoor
namespace Go.Proofs.YtocligpfmfmihaaGreatDoor
open Go Go.RowKit
variable {W w w' : World} {rb k : Nat} {s : ByteArray} {bad : Bool}

/-- The first i hexadecimal digits, and whether they are all. -/
def hxs (l : List UInt8) : Nat → Nat × Bool
  | 0 => (0, true)
  | i + 1 => match hexV (l.getD i 0) with | some d => (16 * (hxs l i).1 + d, (hxs l i).2) | none => (16 * (hxs l i).1, false)
theorem hxs_lt (l : List UInt8) : ∀ i, (hxs l i).1 < 16 ^ i
  | 0 => by simp [hxs]
  | i + 1 => by
    have ih := hxs_lt l i
    rw [hxs, Nat.pow_succ]
    split
    · rename_i d hd
      have := hexV_b16 hd
      show 16 * _ + d < _
      omega
    · show 16 * _ < _
      omega
theorem hexV_0 : hexV 0 = none := by decide
theorem hxs_len (l : List UInt8) : ∀ i, (hxs l i).2 = true → i ≤ l.length
  | 0, _ => by omega
  | i + 1, h => by
    rw [hxs] at h
    split at h
    · rename_i d hd
      have := hxs_len l i h
      rcases Nat.lt_or_ge i l.length with hl | hl
      · omega
      · rw [show l.getD i 0 = 0 by rw [List.getD, List.getElem?_eq_none (by omega)]; rfl, hexV_0] at hd
        cases hd
    · cases h
theorem hex4_hxs (l : List UInt8) : hex4 l = if (hxs l 4).2 then some ((hxs l 4).1, l.drop 4) else none := by
  match l with
  | [] => rfl
  | [a] => simp [hex4, hxs, hexV_0]
  | [a, b] => simp [hex4, hxs, hexV_0]
  | [a, b, c] => simp [hex4, hxs, hexV_0]
  | a :: b :: c :: d :: t =>
    simp only [hex4, hxs, List.getD_cons_zero, List.getD_cons_succ]
    cases ha : hexV a <;> cases hb : hexV b <;> cases hc : hexV c <;> cases hd : hexV d <;> simp
    omega
theorem nxt_add (s : ByteArray) (k i : Nat) : nxt (rest s (k + i)) = (rest s k).getD i 0 := by
  rw [rest_add]
  unfold nxt
  generalize rest s k = l
  induction l generalizing i with
  | nil => cases i <;> rfl
  | cons a l ih =>
    cases i with
    | zero => rfl
    | succ i => simp only [List.drop_succ_cons, List.getD_cons_succ]; exact ih i
theorem hx_cases (c : UInt8) : (48 ≤ (c.toNat : Int) ∧ (c.toNat : Int) ≤ 57 ∧ hexV c = some (c.toNat - 48)) ∨
    (97 ≤ (c.toNat : Int) ∧ (c.toNat : Int) ≤ 102 ∧ hexV c = some (c.toNat - 97 + 10)) ∨ (65 ≤ (c.toNat : Int) ∧ (c.toNat : Int) ≤ 70 ∧ hexV c = some (c.toNat - 65 + 10)) ∨
    (¬ (48 ≤ (c.toNat : Int) ∧ (c.toNat : Int) ≤ 57) ∧ ¬ (97 ≤ (c.toNat : Int) ∧ (c.toNat : Int) ≤ 102) ∧ ¬ (65 ≤ (c.toNat : Int) ∧ (c.toNat : Int) ≤ 70) ∧ hexV c = none) := by
  have h48 : (48 : UInt8).toNat = 48 := rfl
  have h57 : (57 : UInt8).toNat = 57 := rfl
  have h97 : (97 : UInt8).toNat = 97 := rfl
  have h102 : (102 : UInt8).toNat = 102 := rfl
  have h65 : (65 : UInt8).toNat = 65 := rfl
  have h70 : (70 : UInt8).toNat = 70 := rfl
  unfold hexV
  simp only [UInt8.le_iff_toNat_le, h48, h57, h97, h102, h65, h70]
  by_cases a : 48 ≤ c.toNat ∧ c.toNat ≤ 57
  · rw [if_pos a]; left; exact ⟨by omega, by omega, rfl⟩
  · rw [if_neg a]
    by_cases b : 97 ≤ c.toNat ∧ c.toNat ≤ 102
    · rw [if_pos b]; right; left; exact ⟨by omega, by omega, rfl⟩
    · rw [if_neg b]
      by_cases d : 65 ≤ c.toNat ∧ c.toNat ≤ 70
      · rw [if_pos d]; right; right; left; exact ⟨by omega, by omega, rfl⟩
      · rw [if_neg d]; right; right; right; exact ⟨by omega, by omega, by omega, rfl⟩

set_option maxRecDepth 20000 in
set_option maxHeartbeats 1000000 in
theorem hex_c (h : Rs W w rb s k bad) (hk : k + 4 ≤ s.size + 9) :
    Calls Tryz.prog 216 #[.pointer (some ⟨rb, 0, none⟩)] w fun e w' => e = .returned (.int .i32 ((hxs (rest s k) 4).1 : Int)) ∧ Kp (· = rb) w w' ∧ Rs W w' rb s (k + 4) (bad || !(hxs (rest s k) 4).2) := by
  have hsz := h.sz
  go_enter Tryz.func216, Tryz.ntmps216
  go_wp2_with fail
  go_loopg [3, 4] 4 (fun g x i wr => ∃ n : Nat, g = 4 - n ∧ n ≤ 4 ∧ x = .int .i32 ((hxs (rest s k) n).1 : Int) ∧ i = .int .i64 (n : Int) ∧ Kp (· = rb) w wr ∧ Rs W wr rb s (k + n) (bad || !(hxs (rest s k) n).2))
  case atStart => exact ⟨0, rfl, by omega, rfl, rfl, Kp.refl _ _, by simpa [hxs] using h⟩
  case round =>
    obtain ⟨n, hg, hn, rfl, rfl, h2, h1⟩ := hrel
    have A := hide hg
    clear hg
    by_cases h4 : n = 4
    · subst h4
      go_wp2
      go_ret
      exact ⟨rfl, h2, h1⟩
    · have hX := hxs_lt (rest s k) n
      have hX2 : (hxs (rest s k) n).1 < 4096 := by
        have : n = 0 ∨ n = 1 ∨ n = 2 ∨ n = 3 := by omega
        rcases this with rfl | rfl | rfl | rfl <;> omega
      have hd : decide ((n : Int) < 4) = true := by simp; omega
      have hS : hxs (rest s k) (n + 1) = match hexV ((rest s k).getD n 0) with | some d => (16 * (hxs (rest s k) n).1 + d, (hxs (rest s k) n).2) | none => (16 * (hxs (rest s k) n).1, false) := rfl
      have hN := nxt_add s k n
      have hG := hxs_len (rest s k) (n + 1)
      rw [rest_len] at hG
      have hle := h1.le
      generalize hxs (rest s k) n = X at *
      obtain ⟨X, ok⟩ := X
      generalize (rest s k).getD n 0 = c at *
      have HS := hide (And.intro hS (And.intro hN hG))
      clear hS hN hX hG
      have hc := c.toNat_lt
      obtain ⟨c0, c1, c2, f1, f2, hb⟩ := h1.facts
      go_wp2_with fail
      refine (peek_c h1).mono ?_
      rintro e w' ⟨rfl, m, rfl⟩
      rw [HS.out.2.1]
      rcases hx_cases c with ⟨g1, g2, hv⟩ | ⟨g1, g2, hv⟩ | ⟨g1, g2, hv⟩ | ⟨g1, g2, g3, hv⟩
      · have V := hide hv
        clear hv
        go_wp2
        go_roundg (4 - (n + 1))
        case measure => rw [A.out]; omega
        case rel =>
          have hS := HS.out.1
          rw [V.out] at hS
          have hG := HS.out.2.2
          refine ⟨n + 1, rfl, by omega, ?_, congrArg _ (by omega), Kp.setCell (p := ⟨rb, 1, none⟩) (h2.drewN _) (fun _ => rfl) _, ?_⟩
          · rw [hS]
            exact congrArg _ (by show _ = ((16 * X + _ : Nat) : Int); omega)
          · rw [hS] at hG ⊢
            rw [show ((k : Int) + (n : Int) + 1) = ((k + (n + 1) : Nat) : Int) by omega]
            exact (h1.drewN _).at (k + (n + 1)) (by omega) (fun e => by
              simp only [Bool.or_eq_false_iff, Bool.not_eq_false'] at e
              have := hG e.2
              omega)
      · have V := hide hv
        clear hv
        go_wp2
        go_roundg (4 - (n + 1))
        case measure => rw [A.out]; omega
        case rel =>
          have hS := HS.out.1
          rw [V.out] at hS
          have hG := HS.out.2.2
          refine ⟨n + 1, rfl, by omega, ?_, congrArg _ (by omega), Kp.setCell (p := ⟨rb, 1, none⟩) (h2.drewN _) (fun _ => rfl) _, ?_⟩
          · rw [hS]
            exact congrArg _ (by show _ = ((16 * X + _ : Nat) : Int); omega)
          · rw [hS] at hG ⊢
            rw [show ((k : Int) + (n : Int) + 1) = ((k + (n + 1) : Nat) : Int) by omega]
            exact (h1.drewN _).at (k + (n + 1)) (by omega) (fun e => by
              simp only [Bool.or_eq_false_iff, Bool.not_eq_false'] at e
              have := hG e.2
              omega)
      · have V := hide hv
        clear hv
        go_wp2
        go_roundg (4 - (n + 1))
        case measure => rw [A.out]; omega
        case rel =>
          have hS := HS.out.1
          rw [V.out] at hS
          have hG := HS.out.2.2
          refine ⟨n + 1, rfl, by omega, ?_, congrArg _ (by omega), Kp.setCell (p := ⟨rb, 1, none⟩) (h2.drewN _) (fun _ => rfl) _, ?_⟩
          · rw [hS]
            exact congrArg _ (by show _ = ((16 * X + _ : Nat) : Int); omega)
          · rw [hS] at hG ⊢
            rw [show ((k : Int) + (n : Int) + 1) = ((k + (n + 1) : Nat) : Int) by omega]
            exact (h1.drewN _).at (k + (n + 1)) (by omega) (fun e => by
              simp only [Bool.or_eq_false_iff, Bool.not_eq_false'] at e
              have := hG e.2
              omega)
      · have V := hide hv
        clear hv
        go_wp2
        all_goals first | (exfalso; omega) | skip
        all_goals
          go_roundg (4 - (n + 1))
          case measure => rw [A.out]; omega
          case rel =>
            have hS := HS.out.1
            rw [V.out] at hS
            refine ⟨n + 1, rfl, by omega, ?_, congrArg _ (by omega), Kp.setCell (p := ⟨rb, 1, none⟩) (Kp.setCell (p := ⟨rb, 2, none⟩) (h2.drewN _) (fun _ => rfl) _) (fun _ => rfl) _, ?_⟩
            · rw [hS]
              exact congrArg _ (by show _ = ((16 * X : Nat) : Int); omega)
            · rw [hS]
              rw [show ((k : Int) + (n : Int) + 1) = ((k + (n + 1) : Nat) : Int) by omega]
              have hz := ((h1.drewN m).turn true (fun e => by cases e)).at (k + (n + 1)) (by omega) (fun e => by cases e)
              simpa using hz
end Go.Proofs.YtocligpfmfmihaaGreatDoor
